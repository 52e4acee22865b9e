import PyProof.Rows.All
import Wide.All
import OpenK.AllK
import Wide.FinOn
import HandS.ForMost
import HandS.TupSets
import HandS.SetFor
import HandS.SetTxt0
import HandS.Set
import HandS.More
import HandS.Lambda
import HandS.Wide
import HandS.TupAny
import KE.SortData
import PyProof.ReprRoads
import HandS.Zip
import KE.DataFind
import HandS.Gcd
import HandS.TupMul
import KE.KTupSum
import HandS.Ends
import HandS.IsInst
import HandS.Text
import PyProof.TupleOfSeq
import HandS.Style
import HandS.ListEq
import HandS.ListItems
import HandS.DictComp
import HandS.Finally
import HandS.OwnEq
import HandS.Strs
import HandS.SetKeys
import HandS.Property
import KE.GoesMore
import HandS.IterVal
import HandS.OwnIter
import HandS.Deep
import HandS.WordsDict
import OpenK.KMeth
import OpenK.KWalk
import PyProof.InstEq
import KE.KFromBytes
import KE.KOwnIter
import HandS.Walk
import KE.KDictZip
import KE.GoesZip
import HandS.Exc
import HandS.ExcOwn
import HandS.ExcInit
import HandS.ExcField
import HandS.WordsExc
import KE.KExcIs
import PyProof.WalksMore
import HandS.EndTab
import HandS.Small
import HandS.Sort
import KE.KMinKey
import HandS.Conv
import KE.KDictCopyH
import KE.SortKeyHeap
import KE.KSortKey
import HandS.Words
import KE.KEqNest
import KE.KNestM
import KE.KLam
import PySem.Challenge.RW_asmuchas_k23_divisors_of_rows
set_option Elab.async false
set_option linter.all false
set_option maxRecDepth 100000
set_option maxHeartbeats 4000000
set_option exponentiation.threshold 60000
/-! set(xs) of things that are all unlike, told apart by their parts (tuples of texts): how many there are. -/
namespace Hs
open PySem PySem.Spec PyProof.Rows L2
section
variable {K : Type} [DecidableEq K] {P : Program} {w : World}
/-- what such things must bring besides -/
structure Fit (kd : HeapKind P w K) : Prop where
  stay : ∀ {h h' : Heap} {k : K} {b : Addr}, (∀ c o vs n, h.get? c = some o → o.data = .seq vs n → h'.get? c = some o) → kd.is h k b → kd.is h' k b
  cls : ∀ {A : Around} {E : Value → Shared → Prop} {s : Shared} {k : K} {b : Addr} {Q : Bool → Shared → Prop}, kd.is s.heap k b → Q false s → wpAny (model P w) A (ofAClassStatement 8 (.ref b)) Q E s
  byv : ∀ {A : Around} {E : Value → Shared → Prop} {s : Shared} {k : K} {b : Addr} {Q : Bool → Shared → Prop}, kd.is s.heap k b → (∀ y, Q y s) → wpAny (model P w) A (hashByValue 8 (.ref b)) Q E s
variable {kd : HeapKind P w K}
abbrev ent (kd : HeapKind P w K) (p : Addr × K) : Int × Value := (kd.hash p.2, .ref p.1)
/-- the set at a holds the things L, and no others -/
structure Box (kd : HeapKind P w K) (h : Heap) (a : Addr) (L : List (Addr × K)) (es : Array (Int × Value)) (ep : Nat) (t : SetTable) : Prop where
  obj : ∃ o, h.get? a = some o ∧ o.ExactSet ∧ o.data = .set es ep t
  all : es.toList = L.map (ent kd)
  tab : TabOk t (L.map fun p => kd.hash p.2)
  its : ∀ p ∈ L, kd.is h p.2 p.1
  ld : w.params.followText "set-order" = true ∨ t.led = true
  air : L.length * 5 < t.mask * 3
  le : L.length < 64
variable {A : Around} {E : Value → Shared → Prop} {s : Shared} {a : Addr} {L : List (Addr × K)} {es : Array (Int × Value)} {ep : Nat} {t : SetTable}
theorem ents_len (h : es.toList = L.map (ent kd)) : es.size = L.length := by
  rw [← Array.length_toList, h, List.length_map]
theorem fits_of (T : TabOk t (L.map fun p => kd.hash p.2)) (n : es.size = L.length) (m : L.length ≤ t.mask) : t.fits es.size = true := by
  have z := T.sz
  rw [List.length_map] at z
  unfold SetTable.fits SetTable.fill
  rw [T.dm, Bool.and_eq_true, beq_iff_eq, decide_eq_true_eq]
  exact ⟨z.trans n.symm, by show t.place.size + 0 ≤ t.mask; omega⟩
theorem Box.fit (B : Box kd s.heap a L es ep t) : t.fits es.size = true := fits_of B.tab (ents_len B.all) (by have := B.air; omega)
theorem Box.get (B : Box kd s.heap a L es ep t) {i : Nat} {p : Addr × K} (h : L[i]? = some p) : es[i]? = some (ent kd p) := by
  rw [← Array.getElem?_toList, B.all, List.getElem?_map, h]
  rfl
/-- no search shows anything -/
theorem unseen (F : Fit kd) {k : K} {b : Addr} (hk : kd.is s.heap k b) {ys : List Value} (hy : ∀ y ∈ ys, ∃ p : Addr × K, y = .ref p.1 ∧ kd.is s.heap p.2 p.1) {Q : Bool → Shared → Prop} (q : Q false s) :
    wpAny (model P w) A (searchCouldBeSeen (.ref b) ys) Q E s := by
  unfold searchCouldBeSeen
  apply wpAny_bind
  refine wpAny_forIn_list _ (fun left r s1 => s1 = s ∧ r.1 = none ∧ ∀ y ∈ left, ∃ p : Addr × K, y = .ref p.1 ∧ kd.is s.heap p.2 p.1) _ ?_ ?_ _ _ ⟨rfl, rfl, hy⟩
  · rintro y left r s1 ⟨rfl, hr, hs⟩
    obtain ⟨⟨c, k2⟩, rfl, hc⟩ := hs y List.mem_cons_self
    have next := fun u (hu : u ∈ left) => hs u (List.mem_cons_of_mem _ hu)
    dsimp only
    by_cases z : (b == c || (carriedByValue (.ref b) && carriedByValue (.ref c))) = true
    · exact wp_if_pos z (wpAny_pure ⟨rfl, rfl, next⟩)
    · refine wp_if_neg z (wpAny_bind (kd.quiet hk ?_))
      simp only [Bool.not_true, Bool.false_eq_true, if_false]
      apply wpAny_bind
      refine kd.quiet hc ?_
      simp only [Bool.not_true, Bool.false_eq_true, if_false]
      apply wpAny_bind
      refine F.cls hk ?_
      simp only [Bool.false_eq_true, if_false]
      apply wpAny_bind
      refine F.cls hc ?_
      simp only [Bool.false_eq_true, if_false]
      exact wpAny_pure ⟨rfl, rfl, next⟩
  · rintro ⟨r1, r2⟩ s1 ⟨rfl, hr, _⟩
    cases hr
    exact wpAny_pure q
abbrev beg (m : Nat) (h : Int) : SetTable.Probe := runAt m (SetTable.bits h % (m + 1)) (SetTable.bits h)
theorem no_dummy (m : Nat) : ∀ (n : Nat) (p : SetTable.Probe), p.dummy = none → (nth m p n).dummy = none
  | 0, _, h => h
  | n + 1, p, h => no_dummy m n (adv m p) (by
    unfold adv
    split
    · exact h
    · exact h)
/-- the search for what is not there ends at the first empty slot -/
theorem look (F : Fit kd) (B : Box kd s.heap a L es ep t) {x : Addr} {k : K} (hx : kd.is s.heap k x) (ro : kd.room A) (no : k ∉ L.map (·.2)) {J : Nat} (bd : J < 10 * SetTable.turns t.mask)
    (free : way t.mask (kd.hash k) J ∉ t.place.toList) (full : ∀ c, c < J → way t.mask (kd.hash k) c ∈ t.place.toList) {Q : SetFound → Shared → Prop} (q : Q (.free (way t.mask (kd.hash k) J) false) s) :
    ∀ (f c : Nat) (st : Option SetTable.Probe), st.getD (t.probeStart (kd.hash k)) = nth t.mask (beg t.mask (kd.hash k)) c → c ≤ J → J - c < f →
      wpAny (model P w) A (setSearchFrom a (.ref x) (kd.hash k) true f st) Q E s
  | 0, c, _, _, _, lt => absurd lt (Nat.not_lt_zero _)
  | f + 1, c, st, at_c, le, lt => by
    obtain ⟨o, ho, ex, hd⟩ := B.obj
    have gave : ¬ t.gaveWay = true := by
      unfold SetTable.gaveWay
      rw [mask_odd B.tab.mok]
      decide
    have jat : ∀ r, (nth t.mask (nth t.mask (beg t.mask (kd.hash k)) c) r).j = way t.mask (kd.hash k) (c + r) := fun r => by rw [← nth_add]
    have last : c + (J - c) = J := by omega
    have sp := go_spec t B.tab.ris B.tab.dm (fun i => (es[i]?.map (·.1)).getD 0) (kd.hash k) (10 * SetTable.turns t.mask) (J - c) _ (no_dummy t.mask c _ rfl) (Nat.lt_of_le_of_lt (Nat.sub_le _ _) bd)
      (fun r hr => by rw [jat]; exact full _ (by omega)) (by rw [jat, last]; exact free)
    rw [setSearchFrom_succ]
    apply wpAny_bind
    refine wpAny_setState_of ho hd B.fit ?_
    dsimp only
    refine wp_if_neg gave ?_
    try refine wpAny_bind (wpAny_pure ?_)
    rw [at_c]
    rcases sp with ⟨r, i, hr, hi, hh, _, found⟩ | ⟨_, found⟩
    · -- one with this hash: it is another
      rw [show t.probe (fun i => (es[i]?.map (·.1)).getD 0) (kd.hash k) (nth t.mask (beg t.mask (kd.hash k)) c) = _ from found]
      dsimp only
      rw [jat] at hi ⊢
      have hiL : i < L.length := by
        have z1 := (List.getElem?_eq_some_iff.mp hi).1
        have z2 := B.tab.sz
        rw [List.length_map] at z2
        rw [Array.length_toList] at z1
        omega
      obtain ⟨p, hp⟩ : ∃ p, L[i]? = some p := ⟨_, List.getElem?_eq_getElem hiL⟩
      have mp := List.mem_of_getElem? hp
      have isp := B.its p mp
      have ne : p.2 ≠ k := fun e => no (e ▸ List.mem_map_of_mem mp)
      have go : wpAny (model P w) A (searchRest a (.ref x) (kd.hash k) true f es t (way t.mask (kd.hash k) (c + r)) i (nth t.mask (nth t.mask (beg t.mask (kd.hash k)) c) (r + 1))) Q E s := by
        unfold searchRest
        rw [B.get hp]
        dsimp only
        refine wpAny_bind (wpAny_holding (kd.eqBool ro isp hx ?_))
        apply wpAny_bind
        refine wpAny_setState_of ho hd B.fit ?_
        rw [decide_eq_false ne]
        dsimp only
        refine wp_if_neg (by simp) ?_
        try refine wpAny_bind (wpAny_pure ?_)
        rw [sameMem]
        dsimp only
        have live : t.slot (way t.mask (kd.hash k) (c + r)) = .live i := slot_live B.tab.ris hi
        simp only [if_true, live, B.get hp]
        refine wpAny_bind (wpAny_isSame_ref_self (wpAny_bind (wpAny_pure ?_)))
        simp only [if_true]
        refine wp_if_neg (by simp) ?_
        refine look F B hx ro no bd free full q f (c + (r + 1)) _ ?_ (by omega) (by omega)
        exact (nth_add _ _ _ _).symm
      by_cases l : t.led = true
      · refine wp_if_neg (by simp [l]) ?_
        try refine wpAny_bind (wpAny_pure ?_)
        exact go
      · refine wp_if_pos (by simp [l]) ?_
        apply wpAny_bind
        refine unseen F hx (fun y hy => ?_) ?_
        · obtain ⟨e, he, rfl⟩ := List.mem_map.mp hy
          have m1 : e ∈ es.toList := by
            have z : e ∈ es ∧ e.1 = kd.hash k := by simpa using he
            simpa using z.1
          rw [B.all] at m1
          obtain ⟨p2, hp2, rfl⟩ := List.mem_map.mp m1
          exact ⟨p2, rfl, B.its p2 hp2⟩
        · refine wp_if_neg (by decide) ?_
          try refine wpAny_bind (wpAny_pure ?_)
          exact go
    · -- the empty slot
      rw [show t.probe (fun i => (es[i]?.map (·.1)).getD 0) (kd.hash k) (nth t.mask (beg t.mask (kd.hash k)) c) = _ from found]
      dsimp only
      rw [jat, last]
      exact wpAny_pure q
end
end Hs
namespace Hs
open PySem PySem.Spec PyProof.Rows L2
section
variable {K : Type} [DecidableEq K] {P : Program} {w : World} {kd : HeapKind P w K}
variable {A : Around} {E : Value → Shared → Prop} {s : Shared} {a : Addr} {L : List (Addr × K)} {es : Array (Int × Value)} {ep : Nat} {t : SetTable}
/-- the set's change leaves the things as they were -/
theorem is_still (F : Fit kd) {h h' : Heap} {o : Obj} {k : K} {b : Addr} (x : kd.is h k b) (ho : h.get? a = some o) (hd : o.data = .set es ep t) (sb : Heap.SameBut a h h') : kd.is h' k b :=
  F.stay (fun c oc vs n hc hv => (sb.2 c (fun e => by
    rw [e, ho] at hc
    cases hc
    rw [hd] at hv
    cases hv)).trans hc) x
theorem pick (l : List (Addr × K)) : ∀ (js : List Nat), (∀ j ∈ js, j < l.length) → ∃ L2 : List (Addr × K), L2 = js.filterMap (fun j => l[j]?) ∧ L2.length = js.length ∧ ∀ i : Nat, L2[i]? = (js[i]?).bind fun (j : Nat) => l[j]?
  | [], _ => ⟨[], rfl, rfl, fun i => rfl⟩
  | j :: js, h => by
    obtain ⟨L2, e, n, z⟩ := pick l js fun i hi => h i (List.mem_cons_of_mem _ hi)
    have hj := List.getElem?_eq_getElem (h j List.mem_cons_self)
    refine ⟨l[j]'(h j List.mem_cons_self) :: L2, by rw [List.filterMap_cons_some hj, ← e], by rw [List.length_cons, List.length_cons, n], fun i => ?_⟩
    cases i with
    | zero => exact hj.symm
    | succ i => simpa using z i
theorem range_pick (l : List (Addr × K)) : ∀ n, n ≤ l.length → (List.range n).filterMap (fun j => l[j]?) = l.take n
  | 0, _ => rfl
  | n + 1, h => by
    rw [List.range_succ, List.filterMap_append, range_pick l n (by omega), List.take_add_one, List.getElem?_eq_getElem (show n < l.length from h), List.filterMap_cons_some (List.getElem?_eq_getElem (show n < l.length from h))]
    rfl
/-- the rows in another order -/
theorem turned (hr : es.toList = L.map (ent kd)) {od : Array Nat} (pm : od.toList.Perm (List.range L.length)) :
    ∃ L2 : List (Addr × K), L2.Perm L ∧ (od.filterMap (es[·]?)).toList = L2.map (ent kd) ∧ (L2.map fun p => kd.hash p.2) = od.toList.map fun i => (es.map (·.1)).getD i 0 := by
  have below : ∀ j ∈ od.toList, j < L.length := fun j hj => List.mem_range.mp (pm.mem_iff.mp hj)
  obtain ⟨L2, e, n, z⟩ := pick L od.toList below
  have ge : ∀ j, es[j]? = L[j]?.map (ent kd) := fun j => by rw [← Array.getElem?_toList, hr, List.getElem?_map]
  refine ⟨L2, ?_, ?_, ?_⟩
  · have z2 := pm.filterMap (fun j => L[j]?)
    rw [← e, range_pick L _ (Nat.le_refl _), List.take_length] at z2
    exact z2
  · have e3 : ∀ js : List Nat, js.filterMap (fun j => es[j]?) = (js.filterMap fun j => L[j]?).map (ent kd) := fun js => by
      rw [List.map_filterMap]
      exact congrArg (fun g => List.filterMap g js) (funext ge)
    rw [e, ← e3]
    first | exact Array.toList_filterMap .. | simp
  · refine List.ext_getElem? fun i => ?_
    rw [List.getElem?_map, List.getElem?_map, z]
    cases y : od.toList[i]? with
    | none => rfl
    | some j =>
      have hj := below j (List.mem_of_getElem? y)
      have q : (es.map (·.1))[j]? = some (kd.hash (L[j]).2) := by rw [Array.getElem?_map, ge, List.getElem?_eq_getElem hj]; rfl
      have q2 : (es.map (·.1)).getD j 0 = kd.hash (L[j]).2 := by rw [Array.getD_eq_getD_getElem?, q]; rfl
      show Option.map _ (L[j]?) = some ((es.map (·.1)).getD j 0)
      rw [q2, List.getElem?_eq_getElem hj]
      rfl
/-- all laid anew in a larger table -/
theorem wider (F : Fit kd) {o : Obj} (ho : s.heap.get? a = some o) (ex : o.ExactSet) (hd : o.data = .set es ep t) (hr : es.toList = L.map (ent kd)) (T : TabOk t (L.map fun p => kd.hash p.2)) (its : ∀ p ∈ L, kd.is s.heap p.2 p.1)
    (ld : w.params.followText "set-order" = true ∨ t.led = true) (le : L.length < 64) (fl : L.length ≤ t.mask) {n M : Nat} (hM : SetTable.sizeAbove n = M + 1) (mk : MaskOk M) (ai : L.length * 5 < M * 3) {Q : Unit → Shared → Prop}
    (q : ∀ h' L' es' ep' t', Heap.SameBut a s.heap h' → Box kd h' a L' es' ep' t' → L'.Perm L → Q () { s with heap := h' }) : wpAny (model P w) A (setRelay a n) Q E s := by
  have sz := ents_len hr
  have hM2 : SetTable.sizeAbove n - 1 = M := by rw [hM]; rfl
  have M127 : M ≤ 127 := by rcases mk with e | e | e <;> omega
  obtain ⟨t', od, lay, pm, T', em, el, _, _⟩ := relaid_ok t (hs := es.map (·.1)) hM2 mk (by rw [Array.size_map]; omega)
  rw [Array.size_map, sz] at pm
  obtain ⟨L2, p2, r2, h2⟩ := turned hr pm
  rw [← h2] at T'
  have sz2 := ents_len r2
  rw [p2.length_eq] at sz2
  rw [setRelay_eq]
  apply wpAny_bind
  refine wpAny_setState_of ho hd (fits_of T sz fl) ?_
  dsimp only
  refine wp_if_neg (by rw [sizeLine_eq, hM]; omega) ?_
  try refine wpAny_bind (wpAny_pure ?_)
  rw [lay]
  dsimp only
  apply wpAny_bind
  refine wp_if_neg (by rw [sz2, sz]; simp) ?_
  try refine wpAny_bind (wpAny_pure ?_)
  apply wpAny_pure
  have sb : Heap.SameBut a s.heap (s.heap.update a (Obj.putSet (od.filterMap (es[·]?)) t')) := Heap.SameBut.update ..
  refine wpAny_storeSet_of ho hd (q _ L2 _ (ep + 1) t' sb ⟨⟨_, store_at ho hd, ⟨ex.1, ex.2.1, ex.2.2⟩, rfl⟩, r2, T', fun p hp => is_still F (its p (p2.mem_iff.mp hp)) ho hd sb, by rw [el]; exact ld, ?_, ?_⟩ p2) (by rw [sz2, sizeLine_eq]; omega)
  · rw [p2.length_eq, em]
    exact ai
  · rw [p2.length_eq]
    exact le
theorem full_at {m n : Nat} (mk : MaskOk m) (le : n + 1 < 64) (ai : n * 5 < m * 3) (fu : (n + 1) * 5 ≥ m * 3) : ∃ M, SetTable.sizeAbove (SetTable.grown (n + 1)) = M + 1 ∧ MaskOk M ∧ (n + 1) * 5 < M * 3 ∧ n + 1 ≤ m := by
  rcases mk with e | e | e
  · have e2 : n = 4 := by omega
    subst e2
    exact ⟨31, size_20, .inr (.inl rfl), by decide, by omega⟩
  · have e2 : n = 18 := by omega
    subst e2
    exact ⟨127, size_76, .inr (.inr rfl), by decide, by omega⟩
  · omega
/-- one more -/
theorem add (F : Fit kd) (B : Box kd s.heap a L es ep t) {x : Addr} {k : K} (hx : kd.is s.heap k x) (ro : kd.room A) (no : k ∉ L.map (·.2)) (le : L.length + 1 < 64) {Q : Bool → Shared → Prop}
    (q : ∀ h' L' es' ep' t', Heap.SameBut a s.heap h' → Box kd h' a L' es' ep' t' → L'.Perm ((x, k) :: L) → Q true { s with heap := h' }) : wpAny (model P w) A (setAddHashed a (.ref x) (kd.hash k)) Q E s := by
  obtain ⟨o, ho, ex, hd⟩ := B.obj
  have sz := ents_len B.all
  have ai := B.air
  obtain ⟨J, bd, free, full⟩ := B.tab.first (by rw [List.length_map]; omega) (kd.hash k)
  have small : J < 100000 := by
    have z : 10 * SetTable.turns t.mask ≤ 1420 := by
      unfold SetTable.turns
      rcases B.tab.mok with e | e | e <;> omega
    omega
  unfold setAddHashed
  apply wpAny_holding
  rw [show (100000 : Nat) = 99999 + 1 from rfl, setAddHashedIn_succ]
  apply wpAny_bind
  refine wpAny_setState_of ho hd B.fit ?_
  dsimp only
  refine wp_if_neg (by simp [byScan, Value.scannable]) ?_
  try refine wpAny_bind (wpAny_pure ?_)
  apply wpAny_bind
  unfold setSearch
  refine look F B hx ro no bd free full ?_ 100000 0 none rfl (Nat.zero_le _) (by omega)
  dsimp only
  apply wpAny_bind
  refine wpAny_setState_of ho hd B.fit ?_
  dsimp only
  obtain ⟨u1, u2, u3, u4, u5, _, _, _, u9⟩ := B.tab.put free full
  generalize t.put (way t.mask (kd.hash k) J) = tp at u1 u3 u4 u5 u9 ⊢
  obtain ⟨t1, i⟩ := tp
  dsimp only at u1 u3 u4 u5 u9 ⊢
  rw [← u1] at u2 u3
  suffices tail : ∀ t2 : SetTable, t2.mask = t1.mask → t2.led = t1.led → t2.place = t1.place → t2.dummies = t1.dummies → wpAny (model P w) A (do
      storeSet a (SetTable.insertAt es i (kd.hash k, Value.ref x)) t2
      if !false && t2.tooFull then setRelay a (SetTable.grown (es.size + 1))
      return true) Q E s by
    by_cases u6 : t1.plain = true
    · first
        | (apply wpAny_bind; refine wp_if_pos u6 ?_; refine F.byv hx fun y => ?_)
        | refine wp_if_pos u6 (wpAny_bind (F.byv hx fun y => ?_))
      cases y
      · exact tail _ rfl rfl rfl rfl
      · exact tail _ rfl rfl rfl rfl
    · first
        | (apply wpAny_bind; refine wp_if_neg u6 ?_; apply wpAny_pure)
        | refine wp_if_neg u6 (wpAny_bind (wpAny_pure ?_))
      exact tail _ rfl rfl rfl rfl
  intro t2 v4 v5 vp vd
  obtain ⟨L1, eL⟩ : ∃ L1, L1 = L.take i ++ (x, k) :: L.drop i := ⟨_, rfl⟩
  have pm : L1.Perm ((x, k) :: L) := by rw [eL]; exact put_perm L i (x, k)
  have r1 : (SetTable.insertAt es i (kd.hash k, Value.ref x)).toList = L1.map (ent kd) := by
    rw [SetTable.toList_insertAt, B.all, eL, List.map_append, List.map_cons, List.map_take, List.map_drop]
  have T0 : TabOk t1 (L1.map fun p => kd.hash p.2) := by
    rw [eL, List.map_append, List.map_cons, List.map_take, List.map_drop]
    exact u3
  have T1 : TabOk t2 (L1.map fun p => kd.hash p.2) := by
    obtain ⟨c1, c2, c3, c4, c5, c6⟩ := T0
    rw [← vp] at c1 c3 c5 c6
    rw [← v4] at c4 c5 c6
    rw [← vd] at c2
    exact ⟨c1, c2, c3, c4, c5, c6⟩
  have u9' : t2.fill = (L.map fun p => kd.hash p.2).length + 1 := by
    rw [← u9]
    unfold SetTable.fill
    rw [vp, vd]
  have u4' := v4.trans u4
  have u5' := v5.trans u5
  clear u9 u4 u5 T0 u3
  have n1 : L1.length = L.length + 1 := pm.length_eq
  have sz1 := ents_len r1
  generalize SetTable.insertAt es i (kd.hash k, Value.ref x) = es1 at r1 sz1 ⊢
  apply wpAny_bind
  refine wpAny_storeSet_of ho hd ?_ (by rw [sz1, n1, sizeLine_eq]; omega)
  have sb : Heap.SameBut a s.heap (s.heap.update a (Obj.putSet es1 t2)) := Heap.SameBut.update ..
  have ho1 := store_at (es' := es1) (t' := t2) ho hd
  generalize s.heap.update a (Obj.putSet es1 t2) = h1 at sb ho1 ⊢
  have its1 : ∀ p ∈ L1, kd.is h1 p.2 p.1 := fun p hp => by
    rcases List.mem_cons.mp (pm.mem_iff.mp hp) with e | m
    · subst e
      exact is_still F hx ho hd sb
    · exact is_still F (B.its p m) ho hd sb
  have ld1 : w.params.followText "set-order" = true ∨ t2.led = true := by rw [u5']; exact B.ld
  have fill : t2.fill = L.length + 1 := by rw [u9', List.length_map]
  by_cases fu : t2.tooFull = true
  · have fu2 : (L.length + 1) * 5 ≥ t.mask * 3 := by
      have z := fu
      unfold SetTable.tooFull at z
      rw [decide_eq_true_eq, fill, u4'] at z
      exact z
    obtain ⟨M, m1, m2, m3, m4⟩ := full_at B.tab.mok le ai fu2
    first
      | (apply wpAny_bind; refine wp_if_pos (by simp [fu]) ?_)
      | (refine wp_if_pos (by simp [fu]) ?_; apply wpAny_bind)
    rw [sz]
    refine wider F (s := { s with heap := h1 }) ho1 ⟨ex.1, ex.2.1, ex.2.2⟩ rfl r1 T1 its1 ld1 (by rw [n1]; exact le) (by rw [n1, u4']; exact m4) m1 m2 (by rw [n1]; exact m3) fun h2 L2 es2 ep2 t2 sb2 B2 p2 => ?_
    exact wpAny_pure (q h2 L2 es2 ep2 t2 (sb.trans sb2) B2 (p2.trans pm))
  · first
      | refine wp_if_neg (by simp [fu]) ?_
      | (apply wpAny_bind; refine wp_if_neg (by simp [fu]) ?_; apply wpAny_pure)
    refine wpAny_pure (q h1 L1 es1 (ep + 1) t2 sb ⟨⟨_, ho1, ⟨ex.1, ex.2.1, ex.2.2⟩, rfl⟩, r1, T1, its1, ld1, ?_, by rw [n1]; exact le⟩ pm)
    have z := fu
    unfold SetTable.tooFull at z
    rw [decide_eq_true_eq, fill] at z
    rw [n1]
    omega
end
end Hs
/-! Sets of texts whose order can be walked: set(texts), sorted of it, its length. -/
namespace Tx
open PySem PySem.Spec PyProof.Rows L2

/-- the set at a holds the texts l, and its order can be walked -/
structure TxR (P : Program) (w : World) (h : Heap) (a : Addr) (l : List Str) : Prop where
  ex : ∃ D : Froz.SD, h.get? a = some (Froz.sObj "set" D) ∧ Froz.TxOk P w D l ∧ Ris D.2.2.place.toList ∧ (w.params.followText "set-order" = true ∨ D.2.2.led = true)
  nd : l.Nodup

section
variable {P : Program} {w : World} {A : Around} {E : Value → Shared → Prop} {s : Shared} {a : Addr} {l : List Str}
theorem TxR.at {h h' : Heap} (R : TxR P w h a l) (k : ∀ o, h.get? a = some o → h'.get? a = some o) : TxR P w h' a l := by
  obtain ⟨D, q, rest⟩ := R.ex
  exact ⟨⟨D, k _ q, rest⟩, R.nd⟩
theorem tail_ris {ep : Nat} {es : Array (Int × Value)} {t : SetTable} {b : Bool} (r : Ris t.place.toList) : Ris (Froz.tailTx ep es t b).2.2.place.toList ∧ (Froz.tailTx ep es t b).2.2.led = t.led := by
  unfold Froz.tailTx
  split
  · exact ⟨relayAll_ris t es _, relayAll_led t es _⟩
  · exact ⟨r, rfl⟩
theorem add_ris {x : Int} {v : Value} {D : Froz.SD} (r : Ris D.2.2.place.toList) : Ris (Froz.addTx x v D).2.2.place.toList ∧ (Froz.addTx x v D).2.2.led = D.2.2.led := by
  obtain ⟨es, ep, t⟩ := D
  have r1 := layNew_ris t es x v r
  have l1 := layNew_led t es x v
  unfold Froz.addTx
  have z := tail_ris (ep := ep) (es := (layNew t es x v).1) (t := if (layNew t es x v).2.1.plain = true then { (layNew t es x v).2.1 with plain := false } else (layNew t es x v).2.1) (b := (layNew t es x v).2.2.1) (by
    split
    · exact r1
    · exact r1)
  refine ⟨z.1, z.2.trans ?_⟩
  split
  · exact l1
  · exact l1
/-- a text that is in it already -/
theorem old_x {k : Str} {u : Tok} {Q : Bool → Shared → Prop} {D : Froz.SD} (at_a : s.heap.get? a = some (Froz.sObj "set" D)) (F : Froz.TxOk P w D l) (hk : k ∈ l) (room : l.length < scanBound) (q : Q false s) :
    wpAny (model P w) A (setAddHashed a (.str k u) (hashStr w k)) Q E s := by
  obtain ⟨es, ep, t⟩ := D
  have isd : (Froz.sObj "set" (es, ep, t)).data = .set es ep t := rfl
  have fit : t.fits es.size = true := F.fit
  have el : ElemsOf (strKind P w) es.toList := F.el
  have sz : es.size = l.length := F.sz
  have key : (strKind P w).is k (.str k u) = true := Froz.is_str k u
  obtain ⟨e0, m0, i0⟩ := (F.mem k).mp hk
  unfold setAddHashed
  unfold setAddHashedIn
  apply wpAny_holding
  apply wpAny_bind
  apply wpAny_setState_of at_a isd fit
  dsimp only
  rw [byScan_of (knd := strKind P w) rfl (by omega) el]
  simp only [if_true]
  unfold setAddByScan
  apply wpAny_bind
  apply wpAny_bind
  apply wpAny_rule
  apply wpAny_bind
  refine wpAny_setScan_of (knd := strKind P w) (k := k) key at_a isd fit el ?_
  cases e : List.findIdx? (fun e => (strKind P w).is k e.2) es.toList with
  | none =>
    have no := List.findIdx?_eq_none_iff.mp e e0 m0
    rw [i0] at no
    cases no
  | some j => exact wpAny_pure (wpAny_pure q)
def ins (l : List Str) (k : Str) : List Str := if k ∈ l then l else k :: l
theorem add_any {k : Str} {u : Tok} {Q : Bool → Shared → Prop} (R : TxR P w s.heap a l) (room : l.length + 1 < scanBound)
    (q : ∀ b h', Heap.SameBut a s.heap h' → TxR P w h' a (ins l k) → Q b { s with heap := h' }) : wpAny (model P w) A (setAddHashed a (.str k u) (hashStr w k)) Q E s := by
  obtain ⟨D, at_a, F, r, led⟩ := R.ex
  unfold ins at q
  by_cases hk : k ∈ l
  · rw [if_pos hk] at q
    exact old_x at_a F hk (by omega) (q false s.heap (Heap.SameBut.refl a s.heap) R)
  · rw [if_neg hk] at q
    have z := add_ris (x := hashStr w k) (v := .str k u) r
    refine Froz.add_x at_a F hk room (q true _ (Heap.SameBut.update s.heap a _) ⟨⟨_, Froz.get_upd _ at_a rfl, Froz.add_ok u F, z.1, ?_⟩, List.nodup_cons.mpr ⟨hk, R.nd⟩⟩)
    rw [z.2]
    exact led
def ded (ks : List Str) : List Str := ks.foldl ins []
theorem ins_len {k : Str} {l : List Str} : (ins l k).length ≤ l.length + 1 := by
  unfold ins
  split
  · omega
  · exact Nat.le_refl _
theorem ded_len : ∀ {ks : List Str} {l : List Str}, (ks.foldl ins l).length ≤ l.length + ks.length
  | [], l => Nat.le_refl _
  | k :: ks, l => by
    rw [List.foldl_cons, List.length_cons]
    have a := ded_len (ks := ks) (l := ins l k)
    have b := ins_len (k := k) (l := l)
    omega
theorem ded_take {ks : List Str} {i : Nat} {k : Str} (h : ks[i]? = some k) : ded (ks.take (i + 1)) = ins (ded (ks.take i)) k := by
  unfold ded
  rw [List.take_add_one, h, List.foldl_append]
  rfl
/-! ### set(texts) -/
theorem fill {I : Addr} {fp wr : List Addr} {G : Array GenState → Array GenState → Prop} {n : Nat} {Pv : Nat → Value → Prop} {St : Nat → Shared → Prop} {R : Result → Shared → Prop} (W : WalksS P w A.in1 I fp wr G n Pv St) {b : Addr} (out : b ∉ fp)
    (ks : List Str) (hn : n = ks.length) (room : ks.length + 1 < scanBound) (item : ∀ i v, Pv i v → ∃ k t, ks[i]? = some k ∧ v = .str k t) :
    ∀ (m i : Nat) (s : Shared), n - i = m → i ≤ n → St i s → TxR P w s.heap b (ded (ks.take i)) → (∀ s2, Moved (b :: wr) G s s2 → TxR P w s2.heap b (ded ks) → R (.ok (.ret .none)) s2) →
      codeAny (model P w) A (.builtin "set.update.loop" ⟨[.ref b, .ref I], []⟩) R s := by
  have bw : b ∉ wr := fun z => out (W.sub _ z)
  have more : ∀ c ∈ wr, c ∈ b :: wr := fun c z => List.mem_cons_of_mem _ z
  intro m
  induction m with
  | zero =>
    intro i s hm hi st T fin
    obtain rfl : i = n := by omega
    apply codeAny_builtin F.entry_set_update_loop
    rw [Around.under_plainId F.plain_set_update_loop _]
    show wpAny _ A.in1 (pyNext (.ref I) >>= _) _ _ s
    apply wpAny_bind
    refine W.done s _ _ st fun s2 mv => ?_
    show wpAny _ A.in1 (ret Value.none) _ _ s2
    rw [List.take_of_length_le (by omega)] at T
    exact wpAny_pure (fin s2 (mv.mono more) (T.at fun o e => mv.heap b o bw e))
  | succ m ih =>
    intro i s hm hi st T fin
    have lt : i < n := by omega
    apply codeAny_builtin F.entry_set_update_loop
    rw [Around.under_plainId F.plain_set_update_loop _]
    show wpAny _ A.in1 (pyNext (.ref I) >>= _) _ _ s
    apply wpAny_bind
    refine W.item i s _ _ lt st fun v s2 pv st2 mv => ?_
    obtain ⟨k, t, hk, rfl⟩ := item i v pv
    have T2 : TxR P w s2.heap b (ded (ks.take i)) := T.at fun o e => mv.heap b o bw e
    have few : (ded (ks.take i)).length ≤ ks.length := by
      have z := ded_len (ks := ks.take i) (l := [])
      rw [List.length_take, List.length_nil] at z
      show (List.foldl ins [] (ks.take i)).length ≤ _
      omega
    show wpAny _ A.in1 (holding [Value.str k t] (setAdd b (.str k t)) >>= _) _ _ s2
    apply wpAny_bind
    apply wpAny_holding
    unfold setAdd
    apply wpAny_holding
    apply wpAny_bind
    refine (strKind P w).pyHash (k := k) (Froz.is_str k t) ?_
    refine add_any (s := { s2 with toks := s2.toks + 1 }) T2 (by omega) fun _ h2 sb T3 => ?_
    rw [← ded_take hk] at T3
    refine wpAny_pure ⟨plainId_quiet F.plain_set_update_loop _, ih (i + 1) _ (by omega) lt (W.frame _ s2 _ _ st2 (Nat.le_succ _) fun c hc o e => ?_) T3 fun s3 mv3 T4 => ?_⟩
    · rw [sb.2 c (fun z : c = b => out (by rw [← z]; exact hc))]
      exact e
    · refine fin s3 (Moved.trans W.gtrans ((mv.mono more).then_heap (Nat.le_succ _) fun c o hc e => ?_) mv3) T4
      rw [sb.2 c (fun z : c = b => hc (by rw [z]; exact List.mem_cons_self))]
      exact e
end
end Tx
namespace Tx
open PySem PySem.Spec PyProof.Rows L2
section
variable {P : Program} {w : World} {A : Around} {E : Value → Shared → Prop} {s : Shared}
end
end Tx
namespace Hs
open PySem PySem.Spec PyProof.Rows L2
section
variable {K : Type} [DecidableEq K] {P : Program} {w : World} {kd : HeapKind P w K}
variable {A : Around} {E : Value → Shared → Prop} {s : Shared} {L : List (Addr × K)}
/-- so far: the first i of ks -/
def Upto (kd : HeapKind P w K) (h : Heap) (b : Addr) (ks : List (Addr × K)) (i : Nat) : Prop := ∃ L es ep t, Box kd h b L es ep t ∧ L.Perm (ks.take i)
theorem Upto.go (Fi : Fit kd) {h h0 h' : Heap} {b : Addr} {ks : List (Addr × K)} {i : Nat} (U : Upto kd h b ks i) (at0 : ∀ p ∈ ks, kd.is h0 p.2 p.1) (hb : ∀ o, h.get? b = some o → h'.get? b = some o) (k0 : ∀ c o, h0.get? c = some o → h'.get? c = some o) : Upto kd h' b ks i := by
  obtain ⟨L, es, ep, t, B, pm⟩ := U
  obtain ⟨o, ho, r⟩ := B.obj
  exact ⟨L, es, ep, t, ⟨⟨o, hb o ho, r⟩, B.all, B.tab, fun p hp => Fi.stay (fun c o _ _ z _ => k0 c o z) (at0 p (List.mem_of_mem_take (pm.mem_iff.mp hp))), B.ld, B.air, B.le⟩, pm⟩
theorem fill (Fi : Fit kd) {I : Addr} {fp wr : List Addr} {G : Array GenState → Array GenState → Prop} {n : Nat} {Pv : Nat → Value → Prop} {St : Nat → Shared → Prop} {R : Result → Shared → Prop} (W : WalksS P w A.in1 I fp wr G n Pv St) {b : Addr} (out : b ∉ fp)
    (ks : List (Addr × K)) (hn : n = ks.length) (room : ks.length < 64) (nd : (ks.map (·.2)).Nodup) (item : ∀ i v, Pv i v → ∃ p, ks[i]? = some p ∧ v = .ref p.1) {h0 : Heap} (at0 : ∀ p ∈ ks, kd.is h0 p.2 p.1) (b0 : h0.get? b = none) (wr0 : ∀ c ∈ wr, h0.get? c = none) (ro : kd.room A.in1) :
    ∀ (m i : Nat) (s : Shared), n - i = m → i ≤ n → St i s → (∀ c o, h0.get? c = some o → s.heap.get? c = some o) → Upto kd s.heap b ks i → (∀ s2, Moved (b :: wr) G s s2 → (∀ c o, h0.get? c = some o → s2.heap.get? c = some o) → Upto kd s2.heap b ks n → R (.ok (.ret .none)) s2) →
      codeAny (model P w) A (.builtin "set.update.loop" ⟨[.ref b, .ref I], []⟩) R s := by
  have bw : b ∉ wr := fun z => out (W.sub _ z)
  have more : ∀ c ∈ wr, c ∈ b :: wr := fun c z => List.mem_cons_of_mem _ z
  have kept : ∀ {s s2 : Shared}, Moved wr G s s2 → (∀ c o, h0.get? c = some o → s.heap.get? c = some o) → ∀ c o, h0.get? c = some o → s2.heap.get? c = some o := fun mv k0 c o z => mv.heap c o (fun y => by rw [wr0 c y] at z; cases z) (k0 c o z)
  intro m
  induction m with
  | zero =>
    intro i s hm hi st k0 U fin
    obtain rfl : i = n := by omega
    apply codeAny_builtin F.entry_set_update_loop
    rw [Around.under_plainId F.plain_set_update_loop _]
    show wpAny _ A.in1 (pyNext (.ref I) >>= _) _ _ s
    apply wpAny_bind
    refine W.done s _ _ st fun s2 mv => ?_
    show wpAny _ A.in1 (ret Value.none) _ _ s2
    exact wpAny_pure (fin s2 (mv.mono more) (kept mv k0) (U.go Fi at0 (fun o e => mv.heap b o bw e) (kept mv k0)))
  | succ m ih =>
    intro i s hm hi st k0 U fin
    have lt : i < n := by omega
    apply codeAny_builtin F.entry_set_update_loop
    rw [Around.under_plainId F.plain_set_update_loop _]
    show wpAny _ A.in1 (pyNext (.ref I) >>= _) _ _ s
    apply wpAny_bind
    refine W.item i s _ _ lt st fun v s2 pv st2 mv => ?_
    obtain ⟨⟨x, k⟩, hk, rfl⟩ := item i v pv
    have k2 := kept mv k0
    obtain ⟨L, es, ep, t, B, pm⟩ := U.go Fi at0 (fun o e => mv.heap b o bw e) k2
    have len : L.length = i := by rw [pm.length_eq, List.length_take]; omega
    have hx : kd.is s2.heap k x := Fi.stay (fun c o _ _ z _ => k2 c o z) (at0 _ (List.mem_of_getElem? hk))
    have tk : ks.take (i + 1) = ks.take i ++ [(x, k)] := by rw [List.take_add_one, hk]; rfl
    have no : k ∉ L.map (·.2) := fun z => by
      have z2 := (pm.map (·.2)).mem_iff.mp z
      have nd2 : ((ks.take (i + 1)).map (·.2)).Nodup := nd.sublist ((List.take_sublist _ _).map _)
      rw [tk, List.map_append] at nd2
      exact (List.nodup_append.mp nd2).2.2 k z2 k (by simp) rfl
    show wpAny _ A.in1 (holding [Value.ref x] (setAdd b (.ref x)) >>= _) _ _ s2
    apply wpAny_bind
    apply wpAny_holding
    unfold setAdd
    apply wpAny_holding
    apply wpAny_bind
    refine kd.pyHash ro hx ?_
    refine add Fi (s := { s2 with toks := s2.toks + kd.draws k }) B hx ro no (by omega) fun h2 L' es' ep' t' sb B2 pm2 => ?_
    have k3 : ∀ c o, h0.get? c = some o → h2.get? c = some o := fun c o z => (sb.2 c (fun y => by rw [y, b0] at z; cases z)).trans (k2 c o z)
    have U2 : Upto kd h2 b ks (i + 1) := ⟨L', es', ep', t', B2, by
      rw [tk]
      exact pm2.trans ((List.Perm.cons _ pm).trans (List.perm_append_comm (l₁ := [(x, k)])))⟩
    refine wpAny_pure ⟨plainId_quiet F.plain_set_update_loop _, ih (i + 1) _ (by omega) lt (W.frame _ s2 _ _ st2 (Nat.le_add_right _ _) fun c hc o e => ?_) k3 U2 fun s3 mv3 k4 U3 => ?_⟩
    · rw [sb.2 c (fun z : c = b => out (by rw [← z]; exact hc))]
      exact e
    · refine fin s3 (Moved.trans W.gtrans ((mv.mono more).then_heap (Nat.le_add_right _ _) fun c o hc e => ?_) mv3) k4 U3
      rw [sb.2 c (fun z : c = b => hc (by rw [z]; exact List.mem_cons_self))]
      exact e
theorem Upto.zero {h : Heap} {b : Addr} {ks : List (Addr × K)} (U : Upto kd h b [] 0) : Upto kd h b ks 0 := U
end
end Hs
namespace Tx
open PySem PySem.Spec PyProof.Rows L2
section
variable {P : Program} {w : World} {A : Around} {E : Value → Shared → Prop} {s : Shared} {a : Addr} {l : List Str}
end
end Tx
namespace Tx
open PySem PySem.Spec PyProof.Rows L2
section
variable {P : Program} {w : World} {A : Around} {E : Value → Shared → Prop} {s : Shared}
/-- the object of a set that was just made -/
abbrev new0 (w : World) : Obj := { cls := .type "set", dict := none, data := .set #[] 0 (.fresh 0 0 (!w.params.followText "set-order")) }
end
end Tx
/-! A layer of pure data over the hand layer: readings speak of data and slots, not of heaps. -/
namespace Pd
open PySem PySem.Spec PyProof.Rows L2

/-- what may change under others' hands: the bag of draws; the tables of code objects, with the name that their codes bear -/
structure Gd where
  bag : Option Addr
  tab : List (Addr × Str)
def Gd.no : Gd := ⟨none, []⟩
def Bd (g : Gd) (a : Addr) : Prop := g.bag = some a ∨ ∃ q, (a, q) ∈ g.tab
/-- data -/
inductive Da where
  | non | bl (b : Bool) | int (i : Int) | str (x : Str)
  | lst (xs : List Da) | tup (xs : List Da) | tpw (xs : List Da) | dct (kvs : List (Key × Da))
  /-- the bag of draws -/
  | bag
  | raw (v : V)
  /-- a thing that never changes: what is true of it -/
  | fix (φ : Hp → V → Prop)

/-- all that is tracked stays -/
def Sm (H H' : Hp) : Prop := ∀ b o, H b = some o → H' b = some o
/-- all but lists and dicts is seen there, too -/
def Sees (H H' : Hp) : Prop := ∀ a o, H a = some o → (∀ xs, o ≠ .lst xs) → (∀ kvs, o ≠ .dK kvs) → H' a = some o
theorem Sees.sm {H H' : Hp} (e : Sm H H') : Sees H H' := fun a o h _ _ => e a o h
theorem Sees.trans {H H1 H2 : Hp} (a : Sees H H1) (b : Sees H1 H2) : Sees H H2 := fun c o h n1 n2 => b c o (a c o h n1 n2) n1 n2

/-- a tuple that has no dict of its own -/
def TupS (K : PySem.W.Frag) (H : Hp) (a : Addr) (xs : List V) : Prop :=
  (∃ o : Obj, H a = some (.frz o (.tup xs)) ∧ o.dict = none) ∨
    ∃ (o : Obj) (its : Array Value) (n : Nat), K.lookup a = some o ∧ o.cls = .type "tuple" ∧ o.dict = none ∧ o.data = .seq its n ∧ its.size ≤ sizeLine ∧ Vals xs its.toList
theorem TupS.sq {K : PySem.W.Frag} {H : Hp} {a : Addr} {xs : List V} (h : TupS K H a xs) : SqT K H a xs := by
  rcases h with ⟨o, h, _⟩ | ⟨o, its, n, h1, h2, _, h3, h4, h5⟩
  · exact .inl (.inr ⟨o, h⟩)
  · exact .inr ⟨o, its, n, h1, h2, h3, h4, h5⟩

mutual
/-- v is the datum d in the heap Hh, g the bag's address -/
inductive Dv (K : PySem.W.Frag) (g : Gd) (Hh : Hp) : V → Da → Prop
  | non : Dv K g Hh .non .non
  | bl (b : Bool) : Dv K g Hh (.bl b) (.bl b)
  | int (i : Int) : Dv K g Hh (.int i) (.int i)
  | str (x : Str) : Dv K g Hh (.str x) (.str x)
  | lst {a : Addr} {xs : List V} {ds : List Da} : Hh a = some (.lst xs) → DvAll K g Hh xs ds → Dv K g Hh (.ref a) (.lst ds)
  | tup {a : Addr} {xs : List V} {ds : List Da} : TupS K Hh a xs → DvAll K g Hh xs ds → Dv K g Hh (.ref a) (.tup ds)
  | tpw {a : Addr} {xs : List V} {ds : List Da} : SqT K Hh a xs → DvAll K g Hh xs ds → Dv K g Hh (.ref a) (.tpw ds)
  | dct {a : Addr} {kvs : List (Key × V)} {ds : List (Key × Da)} : Hh a = some (.dK kvs) → KvAll K g Hh kvs ds → Dv K g Hh (.ref a) (.dct ds)
  | bag {a : Addr} : g.bag = some a → Dv K g Hh (.ref a) .bag
  | raw {v : V} : Dv K g Hh v (.raw v)
  | fix {v : V} {φ : Hp → V → Prop} : (∀ H', Sees Hh H' → φ H' v) → Dv K g Hh v (.fix φ)
inductive DvAll (K : PySem.W.Frag) (g : Gd) (Hh : Hp) : List V → List Da → Prop
  | nil : DvAll K g Hh [] []
  | cons {v : V} {vs : List V} {d : Da} {ds : List Da} : Dv K g Hh v d → DvAll K g Hh vs ds → DvAll K g Hh (v :: vs) (d :: ds)
inductive KvAll (K : PySem.W.Frag) (g : Gd) (Hh : Hp) : List (Key × V) → List (Key × Da) → Prop
  | nil : KvAll K g Hh [] []
  | cons {k : Key} {v : V} {vs : List (Key × V)} {d : Da} {ds : List (Key × Da)} : Dv K g Hh v d → KvAll K g Hh vs ds → KvAll K g Hh ((k, v) :: vs) ((k, d) :: ds)
end

section
variable {K : PySem.W.Frag} {g : Gd} {H H' : Hp}
theorem sqt_mono {a : Addr} {xs : List V} (e : Sm H H') (h : SqT K H a xs) : SqT K H' a xs := by
  rcases h with (h | ⟨o, h⟩) | h
  · exact .inl (.inl (e _ _ h))
  · exact .inl (.inr ⟨o, e _ _ h⟩)
  · exact .inr h
theorem tups_mono {a : Addr} {xs : List V} (e : Sm H H') (h : TupS K H a xs) : TupS K H' a xs := by
  rcases h with ⟨o, h, n⟩ | h
  · exact .inl ⟨o, e _ _ h, n⟩
  · exact .inr h
mutual
theorem Dv.mono (e : Sm H H') : ∀ (d : Da) (v : V), Dv K g H v d → Dv K g H' v d
  | .non, _, h => by cases h; exact .non
  | .bl _, _, h => by cases h; exact .bl _
  | .int _, _, h => by cases h; exact .int _
  | .str _, _, h => by cases h; exact .str _
  | .lst ds, _, h => by
    cases h with
    | lst h1 h2 => exact .lst (e _ _ h1) (DvAll.mono e ds _ h2)
  | .tup ds, _, h => by
    cases h with
    | tup h1 h2 => exact .tup (tups_mono e h1) (DvAll.mono e ds _ h2)
  | .tpw ds, _, h => by
    cases h with
    | tpw h1 h2 => exact .tpw (sqt_mono e h1) (DvAll.mono e ds _ h2)
  | .dct ds, _, h => by
    cases h with
    | dct h1 h2 => exact .dct (e _ _ h1) (KvAll.mono e ds _ h2)
  | .bag, _, h => by
    cases h with
    | bag q => exact .bag q
  | .raw _, _, h => by cases h; exact .raw
  | .fix _, _, h => by
    cases h with
    | fix q => exact .fix fun H2 s => q H2 (Sees.trans (Sees.sm e) s)
theorem DvAll.mono (e : Sm H H') : ∀ (ds : List Da) (vs : List V), DvAll K g H vs ds → DvAll K g H' vs ds
  | [], _, h => by cases h; exact .nil
  | d :: ds, _, h => by
    cases h with
    | cons h1 h2 => exact .cons (Dv.mono e d _ h1) (DvAll.mono e ds _ h2)
theorem KvAll.mono (e : Sm H H') : ∀ (ds : List (Key × Da)) (vs : List (Key × V)), KvAll K g H vs ds → KvAll K g H' vs ds
  | [], _, h => by cases h; exact .nil
  | (k, d) :: ds, _, h => by
    cases h with
    | cons h1 h2 => exact .cons (Dv.mono e d _ h1) (KvAll.mono e ds _ h2)
end
theorem DvAll.len {xs : List V} : ∀ {ds : List Da}, DvAll K g H xs ds → xs.length = ds.length := by
  induction xs with
  | nil => intro ds h; cases h; rfl
  | cons x xs ih =>
    intro ds h
    cases h with
    | cons _ t => rw [List.length_cons, List.length_cons, ih t]
theorem DvAll.app {xs ys : List V} : ∀ {ds es : List Da}, DvAll K g H xs ds → DvAll K g H ys es → DvAll K g H (xs ++ ys) (ds ++ es) := by
  induction xs with
  | nil => intro ds es h q; cases h; exact q
  | cons x xs ih =>
    intro ds es h q
    cases h with
    | cons p t => exact .cons p (ih t q)
theorem DvAll.at {xs : List V} : ∀ {ds : List Da} {i : Nat} {d : Da}, DvAll K g H xs ds → ds[i]? = some d → ∃ v, xs[i]? = some v ∧ Dv K g H v d := by
  induction xs with
  | nil => intro ds i d h e; cases h; cases e
  | cons x xs ih =>
    intro ds i d h e
    cases h with
    | cons p t =>
      cases i with
      | zero => cases e; exact ⟨x, rfl, p⟩
      | succ i => exact ih (i := i) t (by simpa using e)
theorem DvAll.ta {xs : List V} : ∀ {ds : List Da} {i : Nat} {v : V}, DvAll K g H xs ds → xs[i]? = some v → ∃ d, ds[i]? = some d ∧ Dv K g H v d := by
  induction xs with
  | nil => intro ds i d h e; cases e
  | cons x xs ih =>
    intro ds i d h e
    cases h with
    | cons p t =>
      cases i with
      | zero => cases e; exact ⟨_, rfl, p⟩
      | succ i => exact ih (i := i) t (by simpa using e)
theorem DvAll.tk {xs : List V} : ∀ {ds : List Da} (n : Nat), DvAll K g H xs ds → DvAll K g H (xs.take n) (ds.take n) := by
  induction xs with
  | nil => intro ds n h; cases h; rw [List.take_nil, List.take_nil]; exact .nil
  | cons x xs ih =>
    intro ds n h
    cases h with
    | cons p t =>
      cases n with
      | zero => exact .nil
      | succ n => exact .cons p (ih n t)
theorem DvAll.dr {xs : List V} : ∀ {ds : List Da} (n : Nat), DvAll K g H xs ds → DvAll K g H (xs.drop n) (ds.drop n) := by
  induction xs with
  | nil => intro ds n h; cases h; rw [List.drop_nil, List.drop_nil]; exact .nil
  | cons x xs ih =>
    intro ds n h
    cases h with
    | cons p t =>
      cases n with
      | zero => exact .cons p t
      | succ n => exact ih n t
theorem DvAll.ints : ∀ {is : List Int} {xs : List V}, DvAll K g H xs (is.map .int) → xs = is.map V.int
  | [], _, h => by cases h; rfl
  | i :: is, _, h => by
    cases h with
    | cons p t =>
      cases p
      rw [DvAll.ints t, List.map_cons]
end

/-! ### the world of a def -/
/-- what is hidden from data -/
def hid (W : Addr → Bool) (H : Hp) : Hp := fun a => if W a = true then none else H a
theorem hid_no {W : Addr → Bool} {H : Hp} {a : Addr} (h : W a = false) : hid W H a = H a := by
  unfold hid; rw [h]; exact if_neg Bool.false_ne_true
theorem hid_some {W : Addr → Bool} {H : Hp} {a : Addr} {o : HO} (h : hid W H a = some o) : W a = false ∧ H a = some o := by
  unfold hid at h
  split at h
  · cases h
  · rename_i z
    exact ⟨by simpa using z, h⟩
theorem hid_le {W W' : Addr → Bool} {H : Hp} (h : ∀ a, W a = true → W' a = true) : Sm (hid W' H) (hid W H) := fun a o e => by
  obtain ⟨e1, e2⟩ := hid_some e
  rw [hid_no]
  · exact e2
  · cases q : W a with
    | false => rfl
    | true => rw [h a q] at e1; cases e1
theorem hid_sub {W : Addr → Bool} {H : Hp} : Sm (hid W H) H := fun a o e => (hid_some e).2

/-- all but the bag is kept -/
structure Ext (g : Gd) (H H' : Hp) : Prop where
  out : ∀ b o, ¬ Bd g b → H b = some o → H' b = some o
  last : ∀ a xs, g.bag = some a → H a = some (.lst xs) → ∃ ys, H' a = some (.lst ys) ∧ ys[3]? = xs[3]?
instance {g : Gd} {H H' : Hp} : CoeFun (Ext g H H') (fun _ => ∀ b o, ¬ Bd g b → H b = some o → H' b = some o) := ⟨Ext.out⟩
theorem Ext.refl {g : Gd} {H : Hp} : Ext g H H := ⟨fun _ _ _ h => h, fun _ xs _ h => ⟨xs, h, rfl⟩⟩
theorem Ext.trans {g : Gd} {H H1 H2 : Hp} (a : Ext g H H1) (b : Ext g H1 H2) : Ext g H H2 := ⟨fun c o n h => b c o n (a c o n h), fun c xs hg h => by
  obtain ⟨ys, h1, h2⟩ := a.last c xs hg h
  obtain ⟨zs, h3, h4⟩ := b.last c ys hg h1
  exact ⟨zs, h3, h4.trans h2⟩⟩
theorem Ext.of {g : Gd} {H H' : Hp} (e : Sm H H') : Ext g H H' := ⟨fun b o _ h => e b o h, fun a xs _ h => ⟨xs, e _ _ h, rfl⟩⟩
theorem Ext.hid {g : Gd} {H H' : Hp} {W : Addr → Bool} (gW : ∀ a, Bd g a → W a = true) (e : Ext g H H') : Sm (hid W H) (hid W H') := fun a o q => by
  obtain ⟨e1, e2⟩ := hid_some q
  rw [hid_no e1]
  exact e a o (fun z => by rw [gW a z] at e1; cases e1) e2

/-- the bag: four places; the tables -/
structure BagI (K : PySem.W.Frag) (g : Gd) (W : Addr → Bool) (H : Hp) : Prop where
  bag : ∀ a, g.bag = some a → ∃ (x y : Int) (z : Nat) (c : Addr) (cs : List Int), H a = some (.lst [.int x, .int y, .int z, .ref c]) ∧ Pd.hid W H c = some (.lst (cs.map V.int))
  tabs : LamX.Tabs g.tab H

/-- the bag, and what is hidden -/
structure OkW (K : PySem.W.Frag) (g : Gd) (W : Addr → Bool) (H : Hp) : Prop where
  bag : BagI K g W H
  gW : ∀ a, Bd g a → W a = true
  al : ∀ a, W a = true → ∃ o, H a = some o
theorem BagI.same {K : PySem.W.Frag} {g : Gd} {W : Addr → Bool} {H H' : Hp} (b : BagI K g W H) (e : Sm H H') : BagI K g W H' := ⟨fun a ha => by
  obtain ⟨x, y, z, c, cs, h1, h2⟩ := b.bag a ha
  obtain ⟨q1, q2⟩ := hid_some h2
  exact ⟨x, y, z, c, cs, e _ _ h1, by rw [hid_no q1]; exact e _ _ q2⟩, b.tabs.ext e⟩
/-- what is hidden is fewer -/
def Mut (H : Hp) (a : Addr) : Prop := (∃ xs, H a = some (.lst xs)) ∨ ∃ kvs, H a = some (.dK kvs)
theorem Mut.nx {H : Hp} {a : Addr} (h : Pd.Mut H a) (φ : Heap → Prop) : H a ≠ some (.ext φ) := fun z => by
  rcases h with ⟨xs, q⟩ | ⟨xs, q⟩ <;> rw [z] at q <;> cases q
theorem BagI.less {K : PySem.W.Frag} {g : Gd} {W W' : Addr → Bool} {H : Hp} (b : BagI K g W' H) (e : ∀ a, W a = true → W' a = true) : BagI K g W H := ⟨fun a ha => by
  obtain ⟨x, y, z, c, cs, h1, h2⟩ := b.bag a ha
  exact ⟨x, y, z, c, cs, h1, hid_le e _ _ h2⟩, b.tabs⟩
theorem tabs_at {T : List (Addr × Str)} {H H' : Hp} (t : LamX.Tabs T H) (e : ∀ p ∈ T, ∀ ps, H p.1 = some (.tbl ps) → H' p.1 = some (.tbl ps)) (e2 : ∀ c q, H c = some (LamX.CodeO c q) → H' c = some (LamX.CodeO c q)) : LamX.Tabs T H' := fun p hp => by
  obtain ⟨ps, h1, h2, h3⟩ := t p hp
  refine ⟨ps, e p hp _ h1, h2, fun pos cv hc => ?_⟩
  obtain ⟨c, q1, q2⟩ := h3 pos cv hc
  exact ⟨c, q1, e2 _ _ q2⟩
theorem tabs_upd {T : List (Addr × Str)} {H : Hp} {D : Addr} {o : HO} (t : LamX.Tabs T H) (n : ∀ q, (D, q) ∉ T) (nx : ∀ φ, H D ≠ some (.ext φ)) : LamX.Tabs T (upd H D o) := fun p hp => by
  obtain ⟨ps, h1, h2, h3⟩ := t p hp
  have e1 : p.1 ≠ D := fun z => n p.2 (by rw [← z]; exact hp)
  refine ⟨ps, by rw [upd_ne e1]; exact h1, h2, fun pos cv hc => ?_⟩
  obtain ⟨c, q1, q2⟩ := h3 pos cv hc
  have e2 : c ≠ D := fun z => nx _ (by rw [← z]; exact q2)
  exact ⟨c, q1, by rw [upd_ne e2]; exact q2⟩
theorem BagI.upd {K : PySem.W.Frag} {g : Gd} {W : Addr → Bool} {H : Hp} {D : Addr} {o : HO} (b : BagI K g W H) (n : ¬ Bd g D) (WD : W D = true) (nx : ∀ φ, H D ≠ some (.ext φ)) : BagI K g W (upd H D o) := ⟨fun a ha => by
  obtain ⟨x, y, z, c, cs, h1, h2⟩ := b.bag a ha
  obtain ⟨q1, q2⟩ := hid_some h2
  have e1 : a ≠ D := fun z => n (.inl (z ▸ ha))
  have e2 : c ≠ D := fun z => by rw [z, WD] at q1; cases q1
  exact ⟨x, y, z, c, cs, by rw [upd_ne e1]; exact h1, by rw [hid_no q1, upd_ne e2]; exact q2⟩, tabs_upd b.tabs (fun q h => n (.inr ⟨q, h⟩)) nx⟩
/-- what is neither list nor table nor code changes -/
theorem BagI.put {K : PySem.W.Frag} {g : Gd} {W : Addr → Bool} {H : Hp} {D : Addr} {o : HO} (b : BagI K g W H) (nl : ∀ xs, H D ≠ some (.lst xs)) (nt : ∀ q, (D, q) ∉ g.tab) (nx : ∀ φ, H D ≠ some (.ext φ)) : BagI K g W (L2.upd H D o) := ⟨fun a ha => by
  obtain ⟨x, y, z, c, cs, h1, h2⟩ := b.bag a ha
  obtain ⟨q1, q2⟩ := hid_some h2
  have e1 : a ≠ D := fun z => nl _ (z ▸ h1)
  have e2 : c ≠ D := fun z => nl _ (z ▸ q2)
  exact ⟨x, y, z, c, cs, by rw [upd_ne e1]; exact h1, by rw [hid_no q1, upd_ne e2]; exact q2⟩, tabs_upd b.tabs nt nx⟩
theorem BagI.al {K : PySem.W.Frag} {g : Gd} {W : Addr → Bool} {H : Hp} {a : Addr} (b : BagI K g W H) (h : Bd g a) : ∃ o, H a = some o := by
  rcases h with h | ⟨q, h⟩
  · obtain ⟨x, y, z, c, cs, h1, _⟩ := b.bag a h
    exact ⟨_, h1⟩
  · obtain ⟨ps, h1, _⟩ := b.tabs _ h
    exact ⟨_, h1⟩
theorem OkW.less {K : PySem.W.Frag} {g : Gd} {W W' : Addr → Bool} {H : Hp} (k : OkW K g W' H) (e : ∀ a, W a = true → W' a = true) (g0 : ∀ a, Bd g a → W a = true) : OkW K g W H := ⟨k.bag.less e, g0, fun a h => k.al a (e a h)⟩
/-- whatever else was hidden meanwhile -/
theorem OkW.back {K : PySem.W.Frag} {g : Gd} {W W' : Addr → Bool} {H H1 : Hp} (k0 : OkW K g W H) (e : Ext g H H1) (k : BagI K g W' H1) : OkW K g W H1 := by
  refine ⟨⟨fun a ha => ?_, k.tabs⟩, k0.gW, fun a ha => ?_⟩
  · obtain ⟨x, y, z, c, cs, h1, h2⟩ := k.bag a ha
    obtain ⟨x0, y0, z0, c0, cs0, g1, g2⟩ := k0.bag.bag a ha
    obtain ⟨ys, q1, q2⟩ := e.last a _ ha g1
    rw [h1] at q1
    cases q1
    have ec : c = c0 := by
      have := V.ref.inj (Option.some.inj q2)
      exact this
    subst ec
    obtain ⟨f1, f2⟩ := hid_some g2
    exact ⟨x, y, z, c, cs, h1, by rw [hid_no f1]; exact (hid_some h2).2⟩
  · by_cases z : Bd g a
    · exact k.al z
    · obtain ⟨o, q⟩ := k0.al a ha
      exact ⟨o, e a o z q⟩
theorem OkW.same {K : PySem.W.Frag} {g : Gd} {W : Addr → Bool} {H H' : Hp} (k : OkW K g W H) (e : Sm H H') : OkW K g W H' :=
  ⟨k.bag.same e, k.gW, fun a h => let ⟨o, q⟩ := k.al a h; ⟨o, e a o q⟩⟩
theorem sm_upd {H : Hp} {p : Addr} {o : HO} (h : H p = none) : Sm H (upd H p o) := fun b x e => by
  rw [upd_ne (ne_of_none e h)]
  exact e
theorem OkW.new {K : PySem.W.Frag} {g : Gd} {W : Addr → Bool} {H : Hp} {p : Addr} {o : HO} (k : OkW K g W H) (h : H p = none) :
    Ext g H (upd H p o) ∧ OkW K g W (upd H p o) ∧ Sm (Pd.hid W H) (Pd.hid W (upd H p o)) ∧ Pd.hid W (upd H p o) p = some o := by
  have s := sm_upd (o := o) h
  refine ⟨Ext.of s, k.same s, Ext.hid k.gW (Ext.of s), ?_⟩
  rw [hid_no, upd_same]
  cases q : W p with
  | false => rfl
  | true =>
    obtain ⟨u, z⟩ := k.al p q
    rw [h] at z; cases z

structure Wd where
  H0 : Hp
  g : Gd
  W0 : Addr → Bool

/-- a slot: nothing known, a datum, a list of one's own, a list of lists and dicts, all one's own -/
inductive Sl where
  | no | dat (d : Da) | own (ds : List Da) | reg (ds : List Da)
  /-- a dict of one's own, its values data -/
  | od (ds : List (Key × Da))
abbrev En := List Sl
/-- which slot's own each place is -/
abbrev Ow := Nat → Addr → Prop
def OnlyOwn (own : Ow) (i : Nat) (a : Addr) : Prop := own i a ∧ ∀ b, own i b → b = a
def nom : Option HO → Option HO
  | some (.lst _) => none
  | some (.dK _) => none
  | x => x
open Classical in
/-- what a slot's own whole is seen in: of lists and dicts one's own alone -/
noncomputable def vis (W : Addr → Bool) (own : Ow) (H : Hp) (i : Nat) : Hp := fun a => if own i a then H a else nom (hid W H a)
theorem vis_own {W : Addr → Bool} {own : Ow} {H : Hp} {i : Nat} {a : Addr} (h : own i a) : vis W own H i a = H a := if_pos h
theorem vis_not {W : Addr → Bool} {own : Ow} {H : Hp} {i : Nat} {a : Addr} (h : ¬ own i a) : vis W own H i a = nom (hid W H a) := if_neg h
theorem nom_some {x : Option HO} {o : HO} (h : nom x = some o) : x = some o ∧ nom (some o) = some o := by
  cases x with
  | none => cases h
  | some u =>
    cases u with
    | lst xs => cases h
    | dK xs => cases h
    | _ => cases h; exact ⟨rfl, rfl⟩
/-- a heap without what stands at D -/
def cutAt (D : Addr) (H : Hp) : Hp := fun b => if b = D then none else H b
theorem cutAt_same {D : Addr} {H : Hp} : cutAt D H D = none := if_pos rfl
theorem cutAt_ne {D b : Addr} {H : Hp} (h : b ≠ D) : cutAt D H b = H b := if_neg h
theorem tabs_cut {T : List (Addr × Str)} {H : Hp} {D : Addr} (t : LamX.Tabs T H) (n : ∀ q, (D, q) ∉ T) (nx : ∀ φ, H D ≠ some (.ext φ)) : LamX.Tabs T (cutAt D H) := fun p hp => by
  obtain ⟨ps, h1, h2, h3⟩ := t p hp
  have e1 : p.1 ≠ D := fun z => n p.2 (by rw [← z]; exact hp)
  refine ⟨ps, by rw [cutAt_ne e1]; exact h1, h2, fun pos cv hc => ?_⟩
  obtain ⟨c, q1, q2⟩ := h3 pos cv hc
  have e2 : c ≠ D := fun z => nx _ (by rw [← z]; exact q2)
  exact ⟨c, q1, by rw [cutAt_ne e2]; exact q2⟩
theorem BagI.cut {K : PySem.W.Frag} {g : Gd} {W : Addr → Bool} {H : Hp} {D : Addr} (b : BagI K g W H) (n : ¬ Bd g D) (WD : W D = true) (nx : ∀ φ, H D ≠ some (.ext φ)) : BagI K g W (cutAt D H) := ⟨fun a ha => by
  obtain ⟨x, y, z, c, cs, h1, h2⟩ := b.bag a ha
  obtain ⟨q1, q2⟩ := hid_some h2
  have e1 : a ≠ D := fun z => n (.inl (z ▸ ha))
  have e2 : c ≠ D := fun z => by rw [z, WD] at q1; cases q1
  exact ⟨x, y, z, c, cs, by rw [cutAt_ne e1]; exact h1, by rw [hid_no q1, cutAt_ne e2]; exact q2⟩, tabs_cut b.tabs (fun q h => n (.inr ⟨q, h⟩)) nx⟩
theorem cutAt_sm {D : Addr} {H H' : Hp} (e : Sm H H') : Sm (cutAt D H) (cutAt D H') := fun b o z => by
  by_cases q : b = D
  · rw [q, cutAt_same] at z; cases z
  · rw [cutAt_ne q] at z
    rw [cutAt_ne q]
    exact e b o z
theorem cutAt_le {D : Addr} {H : Hp} : Sm (cutAt D H) H := fun b o z => by
  by_cases q : b = D
  · rw [q, cutAt_same] at z; cases z
  · rw [cutAt_ne q] at z
    exact z
theorem vis_up {W W' : Addr → Bool} {own own' : Ow} {H H' : Hp} {i j : Nat} (h1 : ∀ a o, own i a → H a = some o → own' j a ∧ H' a = some o) (h2 : Sm (hid W H) (hid W' H')) : Sm (vis W own H i) (vis W' own' H' j) := fun a o e => by
  by_cases q : own i a
  · rw [vis_own q] at e
    obtain ⟨z1, z2⟩ := h1 a o q e
    rw [vis_own z1]
    exact z2
  · rw [vis_not q] at e
    obtain ⟨z1, z2⟩ := nom_some e
    have z3 := h2 a o z1
    by_cases q' : own' j a
    · rw [vis_own q']
      exact (hid_some z3).2
    · rw [vis_not q', z3]
      exact z2

def SlD (K : PySem.W.Frag) (g : Gd) (W : Addr → Bool) (own : Ow) (H : Hp) (i : Nat) (v : V) : Sl → Prop
  | .no => True
  | .dat d => Dv K g (hid W H) v d
  | .own ds => ∃ a xs, OnlyOwn own i a ∧ v = .ref a ∧ H a = some (.lst xs) ∧ DvAll K g (hid W H) xs ds
  | .reg ds => ∃ a xs, own i a ∧ v = .ref a ∧ H a = some (.lst xs) ∧ DvAll K g (cutAt a (vis W own H i)) xs ds
  | .od ds => ∃ a xs, OnlyOwn own i a ∧ v = .ref a ∧ H a = some (.dK xs) ∧ KvAll K g (hid W H) xs ds

structure Stt (K : PySem.W.Frag) (w : Wd) (W : Addr → Bool) (own : Ow) (r : En) (σ : L2.St) (H : Hp) : Prop where
  ok : OkW K w.g W H
  base : Ext w.g w.H0 H
  w0 : ∀ a, w.W0 a = true → W a = true
  g0 : ∀ a, Bd w.g a → w.W0 a = true
  /-- what is hidden since is new -/
  wN : ∀ a, W a = true → w.W0 a = true ∨ w.H0 a = none
  oW : ∀ i a, own i a → W a = true ∧ w.H0 a = none ∧ ¬ Bd w.g a
  inj : ∀ i j a, own i a → own j a → i = j ∧ Mut H a
  len : r.length = σ.length
  sl : ∀ i d, r[i]? = some d → d ≠ .no → ∃ v, σ[i]? = some (some v) ∧ SlD K w.g W own H i v d

section
variable {K : PySem.W.Frag} {w : Wd} {W : Addr → Bool} {own : Ow} {r : En} {σ : L2.St} {H H' : Hp}
theorem Mut.up {a : Addr} (h : Mut H a) (e : ∀ o, H a = some o → H' a = some o) : Mut H' a := h.imp (fun ⟨xs, z⟩ => ⟨xs, e _ z⟩) fun ⟨xs, z⟩ => ⟨xs, e _ z⟩
theorem SlD.ext {g : Gd} {i : Nat} {v : V} {d : Sl} (gW : ∀ a, Bd g a → W a = true) (og : ∀ i a, own i a → ¬ Bd g a) (e : Ext g H H') (h : SlD K g W own H i v d) : SlD K g W own H' i v d := by
  cases d with
  | no => trivial
  | dat d => exact Dv.mono (e.hid gW) _ _ h
  | own ds =>
    obtain ⟨a, xs, h1, h2, h3, h4⟩ := h
    exact ⟨a, xs, h1, h2, e _ _ (og i a h1.1) h3, DvAll.mono (e.hid gW) _ _ h4⟩
  | reg ds =>
    obtain ⟨a, xs, h1, h2, h3, h4⟩ := h
    exact ⟨a, xs, h1, h2, e _ _ (og i a h1) h3, DvAll.mono (cutAt_sm (vis_up (fun a o q z => ⟨q, e a o (og i a q) z⟩) (e.hid gW))) _ _ h4⟩
  | od ds =>
    obtain ⟨a, xs, h1, h2, h3, h4⟩ := h
    exact ⟨a, xs, h1, h2, e _ _ (og i a h1.1) h3, KvAll.mono (e.hid gW) _ _ h4⟩
theorem Stt.ext (S : Stt K w W own r σ H) (e : Ext w.g H H') (b : OkW K w.g W H') : Stt K w W own r σ H' :=
  ⟨b, S.base.trans e, S.w0, S.g0, S.wN, S.oW, fun i j a h1 h2 => ⟨(S.inj i j a h1 h2).1, (S.inj i j a h1 h2).2.up fun o z => e a o (S.oW i a h1).2.2 z⟩, S.len, fun i d h n => by
    obtain ⟨v, h1, h2⟩ := S.sl i d h n
    exact ⟨v, h1, h2.ext S.ok.gW (fun i a q => (S.oW i a q).2.2) e⟩⟩
theorem Stt.dat (S : Stt K w W own r σ H) {i : Nat} {d : Da} (h : r[i]? = some (.dat d)) : ∃ v, σ[i]? = some (some v) ∧ Dv K w.g (hid W H) v d := by
  obtain ⟨v, h1, h2⟩ := S.sl i _ h (fun z => by cases z)
  exact ⟨v, h1, h2⟩
theorem OnlyOwn.off {i j : Nat} {a : Addr} (h : OnlyOwn own j a) (n : j ≠ i) : OnlyOwn (fun j a => j ≠ i ∧ own j a) j a := ⟨⟨n, h.1⟩, fun b hb => h.2 b hb.2⟩
/-- a slot is set to a datum (what that slot owned is let go) -/
theorem Stt.setS (S : Stt K w W own r σ H) {i : Nat} {v : V} {d : Da} (hd : Dv K w.g (hid W H) v d) : Stt K w W (fun j a => j ≠ i ∧ own j a) (r.set i (.dat d)) (σ.set i (some v)) H := by
  refine ⟨S.ok, S.base, S.w0, S.g0, S.wN, fun j a h => S.oW j a h.2, fun j k a h1 h2 => S.inj j k a h1.2 h2.2, by rw [List.length_set, List.length_set]; exact S.len, fun j u h n => ?_⟩
  by_cases hj : j = i
  · subst hj
    have hl : j < r.length := by
      have := (List.getElem?_eq_some_iff.mp h).1
      rwa [List.length_set] at this
    rw [List.getElem?_set_self hl] at h
    cases h
    exact ⟨v, by rw [List.getElem?_set_self (by rw [← S.len]; exact hl)], hd⟩
  · rw [List.getElem?_set_ne (Ne.symm hj)] at h
    obtain ⟨u', h1, h2⟩ := S.sl j u h n
    refine ⟨u', by rw [List.getElem?_set_ne (Ne.symm hj)]; exact h1, ?_⟩
    cases u with
    | no => trivial
    | dat d => exact h2
    | own ds =>
      obtain ⟨a, xs, q1, q2⟩ := h2
      exact ⟨a, xs, q1.off hj, q2⟩
    | reg ds =>
      obtain ⟨a, xs, q1, q2, q3, q4⟩ := h2
      exact ⟨a, xs, ⟨hj, q1⟩, q2, q3, DvAll.mono (cutAt_sm (vis_up (fun a o q z => ⟨⟨hj, q⟩, z⟩) fun _ _ z => z)) _ _ q4⟩
    | od ds =>
      obtain ⟨a, xs, q1, q2⟩ := h2
      exact ⟨a, xs, q1.off hj, q2⟩
theorem Stt.set (S : Stt K w W own r σ H) {i : Nat} {v : V} {d : Da} (hd : Dv K w.g (hid W H) v d) : ∃ own', Stt K w W own' (r.set i (.dat d)) (σ.set i (some v)) H := ⟨_, S.setS hd⟩
/-- slots forgotten -/
def wipeD (r : En) : List Nat → En
  | [] => r
  | v :: vs => (wipeD r vs).set v .no
theorem Stt.forget (S : Stt K w W own r σ H) (i : Nat) (x : Option V) : Stt K w W own (r.set i .no) (σ.set i x) H := by
  refine ⟨S.ok, S.base, S.w0, S.g0, S.wN, S.oW, S.inj, by rw [List.length_set, List.length_set]; exact S.len, fun j u h n => ?_⟩
  by_cases hj : j = i
  · subst hj
    have hl : j < r.length := by
      have := (List.getElem?_eq_some_iff.mp h).1
      rwa [List.length_set] at this
    rw [List.getElem?_set_self hl] at h
    cases h
    exact absurd rfl n
  · rw [List.getElem?_set_ne (Ne.symm hj)] at h
    obtain ⟨u', h1, h2⟩ := S.sl j u h n
    exact ⟨u', by rw [List.getElem?_set_ne (Ne.symm hj)]; exact h1, h2⟩
theorem Stt.wipe (S : Stt K w W own r σ H) : ∀ vs : List Nat, Stt K w W own (wipeD r vs) (L2.wipe σ vs) H
  | [] => S
  | v :: vs => by
    show Stt K w W own ((wipeD r vs).set v .no) ((L2.wipe σ vs).set v none) H
    exact (S.wipe vs).forget v none
end
end Pd
/-! Contracts that know that no repr is under way; the judgements of pure data. -/
namespace Pd
open PySem PySem.Spec PyProof.Rows L2

/-! ### contracts with the guards told -/
structure FnG (P : Program) (wd : World) (K : PySem.W.Frag) (mg : Str → Option Value) (base : Heap) (CX : CXT) (k : Nat) (f : Addr) (fd : FuncData) (ps : List Str) (sp : Sp) : Prop where
  many : ∀ vs H Q E, sp vs H Q E → vs.length = ps.length
  goes : ∀ (A : Around) (outer : List Env) (s0 : Shared) (H : Hp) (args : Args) (us : List Value) (vs : List V) (Q : VK) (E : XK),
    Room k A → A.guards = some [] → Env0 P wd K mg base A outer s0 H → BindsTo s0 fd args (ps.zip us) → Vals vs us → sp vs H Q E →
      codeAny (model P wd) A (.call (.ref f) args) (CR CX outer P wd H s0 Q E) s0
theorem FnG.up {P : Program} {wd : World} {K : PySem.W.Frag} {mg : Str → Option Value} {base : Heap} {CX : CXT} {j k : Nat} {f : Addr} {fd : FuncData} {ps : List Str} {sp : Sp}
    (F : FnG P wd K mg base CX j f fd ps sp) (h : j ≤ k) : FnG P wd K mg base CX k f fd ps sp :=
  ⟨F.many, fun A outer s0 H args us vs Q E room => F.goes A outer s0 H args us vs Q E (room.mono h)⟩

/-- a def's body, the guards told -/
theorem fnG_of {CX : CXT} {P : Program} {wd : World} {K : PySem.W.Frag} {mg : Str → Option Value} {base : Heap} {k : Nat} {f : Addr} {nm qual : Str} {params : Arguments} {body : List Stmt} {sc : Scope}
    {dV kV doc pm cdv ct oc : Value} {an od : Option Addr} {osl : Array (Option Value)} {N ps : List Str} {sp : Sp}
    (at_f : K.lookup f = some ⟨oc, od, .func (PySem.W.fnOf nm qual params body sc dV kV doc pm an cdv ct), osl⟩)
    (at_c : PySem.W.codeIn K cdv qual = true) (S : FnScope N ps sc)
    (many : ∀ vs H Q E, sp vs H Q E → vs.length = ps.length)
    (inside : ∀ (A : Around) (outer : List Env) (s0 : Shared) (H : Hp) (vs : List V) (Q : VK) (E : XK), Room k (A.deeper (envOfC qual sc s0.heap.objs.size f cdv)) → A.guards = some [] → sp vs H Q E →
      ∃ t, PSs (cxOf CX P wd K mg base N qual sc f cdv A outer s0 H E) body t ∧ t { nx := fun _ H' => Q .non H', rt := Q } (start N vs) H) :
    FnG P wd K mg base CX (k + 1) f (PySem.W.fnOf nm qual params body sc dV kV doc pm an cdv ct) ps sp := by
  constructor
  · exact many
  · intro A outer s0 H args us vs Q E room hG z0 bd rel pre
    have keep0 : ∀ b o, base.get? b = some o → s0.heap.get? b = some o := fun b o e => (z0.bs b o e).1
    have inK : K.In s0.heap := z0.mod.kin.keeps keep0
    have nolim : s0.heap.NoLimit := z0.mod.nolimit.keeps keep0
    have kinds : ∀ y ∈ ps.zip us, sc.names.lookup y.1 = some .local ∨ (sc.names.lookup y.1 = some .cell ∧ ((cellsFrom (s0.heap.objs.size + 1) sc.names []).lookup y.1).isSome = true) := by
      rintro ⟨n, v⟩ hy
      cases S.par n (List.of_mem_zip hy).1 with
      | inl q => exact Or.inl q
      | inr q => exact Or.inr ⟨q, PySem.W.cellsFrom_some _ _ _ (Or.inl q)⟩
    apply codeAny_call_function room.depth (inK _ _ at_f) rfl S.co S.gen rfl (PySem.W.codeRec_of inK at_c) (bd _ _ _ _ ?_)
    apply wpAny_newFunctionEnv_cells S.kind kinds
    intro env ee s1 ic
    subst ee
    refine ⟨nolim.keeps ic.toInCall.keep, codeAny_func ?_⟩
    obtain ⟨t, runs, goal⟩ := inside A outer s0 H vs Q E (room.deeper _) hG pre
    have J := inv_start (CX := CX) (P := P) (w := wd) (K := K) (mg := mg) (base := base) (N := N) (ps := ps) (qual := qual) (scope := sc) (f := f) (cd := cdv) (E := E) S room.hd z0 (many _ _ _ _ pre) rel ic
    have last : ∀ {σ' : L2.St} {H' : Hp} {v : V} {u : Value} {s' : Shared}, Inv (cxOf CX P wd K mg base N qual sc f cdv A outer s0 H E) [] σ' H' s' → RelV v u → Q v H' → CE outer P wd H s0 Q u s' := by
      intro σ' H' v u s' I rv q
      exact ⟨v, H', I.os, I.bare, I.base, I.hok, rv, q⟩
    refine wpAny_mono (runs.run [] s1 (start N vs) H _ J goal) ?_ (fun e s' hs => hs)
    intro fl s' hs
    cases fl with
    | next =>
      obtain ⟨σ', H', I, q⟩ := hs
      exact last (v := V.non) (u := Value.none) I rfl q
    | ret u =>
      obtain ⟨v, σ', H', I, rv, q⟩ := hs
      exact last I rv q
    | brk =>
      obtain ⟨_, _, _, q⟩ := hs
      exact q.elim
    | cont =>
      obtain ⟨_, _, _, q⟩ := hs
      exact q.elim

section
variable {X : Cx} {CX : CXT} {k : Nat} {f : Addr} {fd : FuncData} {ps : List Str} {sp : Sp} {dvs : List V} {ds : List Value} {E : XK} {x : Str} {p pos : Pos} {e : Expr} {es : List Expr} {t : TA}
theorem run_G {pins : List (Addr × Obj)} {σ : L2.St} {H : Hp} {s : Shared} {Q : VK} {us : List Value} {vs : List V} (F : FnG X.prog X.w X.K X.mg X.base CX k f fd ps sp) (room : Room k X.A) (hG : X.A.guards = some [])
    (bd : Binds X.K fd ps ds) (dv : Vals dvs ds) (px : Passes CX X E) (I : Inv X pins σ H s) (rel : Vals vs us) (pre : sp (vs ++ dvs) H Q E) : wpAny (model X.prog X.w) X.A (call (.ref f) us) (EP X pins σ Q) X.xe s := by
  have rel2 : Vals (vs ++ dvs) (us ++ ds) := rel.append dv
  have len2 : (us ++ ds).length = ps.length := rel2.length.symm.trans (F.many _ _ _ _ pre)
  have all := F.goes X.A X.stack s H ⟨us, []⟩ (us ++ ds) (vs ++ dvs) Q E room hG I.env0 (bd s us I.kIn len2) rel2 pre
  refine wpAny_call (codeAny_mono all ?_)
  intro r s' out
  match r, out with
  | .error e, out => exact px pins σ H s e s' I out
  | .ok (.ret u), out => exact I.after out
  | .ok .next, out => exact out.elim
  | .ok .brk, out => exact out.elim
  | .ok .cont, out => exact out.elim
/-- f(..) -/
theorem pe_callG (F : FnG X.prog X.w X.K X.mg X.base CX k f fd ps sp) (room : Room k X.A) (hG : X.A.guards = some []) (gl : Gl X x) (at_x : X.mg x = some (.ref f)) (kp : PySem.W.keepIn X.K (.ref f) = true)
    (bd : Binds X.K fd ps ds) (dv : Vals dvs ds) (px : Passes CX X E) (args : PA X (e :: es) t) (nd : (x == ("__debug__" : Str)) = false := by decide)
    (st : starEach (e :: es) X.env = (false, eval e X.env) :: starEach es X.env := by rfl) (bk : (backTo pos (starEach es X.env)).any (·.1) = false := by rfl) :
    PE X (.Call (.Name x p) (e :: es) [] pos) (tCall sp dvs E t) := by
  constructor
  intro pins s σ H Q I pre
  apply wpAny_Call_Name_kw
  apply ld_glob I gl at_x _ nd
  refine PySem.W.callWith_K (h₀ := X.base) I.ok.mod.kin kp (thn (args.run pos pins s σ H _ I pre) ?_) st bk
  rintro us s1 ⟨vs, H1, I1, rel, q⟩
  exact ⟨I1.kIn, run_G F room hG bd dv px I1 rel q⟩
end

/-! ### a def of the text by its body -/
theorem FunG.okC {P : Program} {wd : World} {K : PySem.W.Frag} {mg : Str → Option Value} {base : Heap} {x qual : Str} {st : Stmt} {f : Addr} {fd : FuncData} {N ps : List Str} {k : Nat} {sp : Sp}
    (F : Fun K x qual st f fd) (S : FnScope N ps (defScope st)) (many : ∀ vs H Q E, sp vs H Q E → vs.length = ps.length)
    (inside : ∀ (cdv : Value) (A : Around) (outer : List Env) (s0 : Shared) (H : Hp) (vs : List V) (Q : VK) (E : XK), fd.code = cdv → Room k (A.deeper (envOfC qual (defScope st) s0.heap.objs.size f cdv)) → A.guards = some [] → sp vs H Q E →
      ∃ t, PSs (cxOf CX0 P wd K mg base N qual (defScope st) f cdv A outer s0 H E).nox (defBody st) t ∧ t { nx := fun _ H' => Q .non H', rt := Q } (start N vs) H) :
    FnG P wd K mg base CX0 (k + 1) f fd ps sp := by
  obtain ⟨oc, od, kV, doc, pm, an, cdv, ct, osl, rfl, at_f, at_c⟩ := F.ex
  apply fnG_of at_f at_c S many
  intro A outer s0 H vs Q E room hG pre
  obtain ⟨t, h, q⟩ := inside cdv A outer s0 H vs Q E rfl room hG pre
  exact ⟨t, h.nox, q⟩
theorem FunG.ok {P : Program} {wd : World} {K : PySem.W.Frag} {mg : Str → Option Value} {base : Heap} {x qual : Str} {st : Stmt} {f : Addr} {fd : FuncData} {N ps : List Str} {k : Nat} {sp : Sp}
    (F : Fun K x qual st f fd) (S : FnScope N ps (defScope st)) (many : ∀ vs H Q E, sp vs H Q E → vs.length = ps.length)
    (inside : ∀ (cdv : Value) (A : Around) (outer : List Env) (s0 : Shared) (H : Hp) (vs : List V) (Q : VK) (E : XK), Room k (A.deeper (envOfC qual (defScope st) s0.heap.objs.size f cdv)) → A.guards = some [] → sp vs H Q E →
      ∃ t, PSs (cxOf CX0 P wd K mg base N qual (defScope st) f cdv A outer s0 H E).nox (defBody st) t ∧ t { nx := fun _ H' => Q .non H', rt := Q } (start N vs) H) :
    FnG P wd K mg base CX0 (k + 1) f fd ps sp := FunG.okC F S many fun cdv A outer s0 H vs Q E _ room hG pre => inside cdv A outer s0 H vs Q E room hG pre
end Pd
/-! Tuples without a dict of their own; the judgements of pure data; operators. -/
namespace Pd
open PySem PySem.Spec PyProof.Rows L2

/-! ### tuples, their objects told -/
def tupO (its : List Value) : Obj := { cls := .type "tuple", data := .seq its.toArray }
section
variable {X : Cx} {pos : Pos} {e : Expr} {es : List Expr} {t : TA}
theorem lay_tup {pins : List (Addr × Obj)} {σ : L2.St} {H : Hp} {s : Shared} {xs : List V} {its : List Value} (I : Inv X pins σ H s) (r : Vals xs its) (z : xs.length ≤ sizeLine) :
    H s.heap.objs.size = none ∧ Inv X pins σ (upd H s.heap.objs.size (.frz (tupO its) (.tup xs))) { s with heap := s.heap.push (tupO its) } := by
  refine ⟨I.hok.fresh (Nat.le_refl _), I.laid (t' := s.toks) (fun b u q => Heap.get?_push_of_some _ q) (Nat.le_refl _) ?_⟩
  have q : (s.heap.push (tupO its)).get? s.heap.objs.size = some (tupO its) := Heap.get?_push_size _ rfl
  exact ⟨q, z, its, r, _, q, rfl, _, rfl⟩
/-- what is wanted of a new tuple -/
def NewT (xs : List V) (H : Hp) (Q : VK) : Prop := ∀ p o, H p = none → o.dict = none → Q (.ref p) (upd H p (.frz o (.tup xs)))
theorem new_tup {pins : List (Addr × Obj)} {σ : L2.St} {H : Hp} {s : Shared} {xs : List V} {its : List Value} {Q : VK} (I : Inv X pins σ H s) (r : Vals xs its) (z : xs.length ≤ sizeLine) (q : NewT xs H Q) :
    EP X pins σ Q (.ref s.heap.objs.size) { s with heap := s.heap.push (tupO its) } := by
  obtain ⟨h1, h2⟩ := lay_tup I r z
  exact ⟨V.ref s.heap.objs.size, _, h2, rfl, q _ _ h1 rfl⟩
def tTupS (t : TA) : TE := fun σ H Q => t σ H fun xs H1 => xs.length ≤ sizeLine ∧ NewT xs H1 Q
theorem pe_tupS {c} (h : PA X es t) : PE X (.Tuple es c pos) (tTupS t) := by
  constructor
  intro pins s σ H Q I hq
  apply wpAny_Tuple_spliced
  refine thn (h.run pos pins s σ H _ I hq) ?_
  rintro us s1 ⟨xs, H1, I1, r, z, q⟩
  exact ⟨by rw [← r.length]; exact z, new_tup I1 r z q⟩
def rTupS (K : PySem.W.Frag) : List V → Hp → VK → Prop := fun xs H Q => ∃ p ys, xs = [.ref p] ∧ ((SqL K H p ys ∧ NewT ys H Q) ∨ (SqT K H p ys ∧ Q (.ref p) H))
theorem cr_tupS : CallR X (.type "tuple") (rTupS X.K) := by
  intro pins s σ H xs us Q I r h
  obtain ⟨p, ys, rfl, h⟩ := h
  obtain ⟨u, rfl, rx⟩ := vals1 r
  cases rx
  cases h with
  | inl h =>
    obtain ⟨its, r', pl, hz⟩ := I.list h.1
    refine call_tuple_list pl.isList (fun h' kp => ?_) ?_
    · have I1 : Inv X pins σ H { s with heap := h' } := I.kept (t' := s.toks) kp
      exact new_tup I1 r' hz h.2
    · have := r'.length
      rw [List.size_toArray]
      omega
  | inr h =>
    obtain ⟨its, r', pl, hz⟩ := I.tuple h.1
    exact call_tuple_same pl ⟨.ref p, H, I, rfl, h.2⟩
def rCatS (K : PySem.W.Frag) : R2 := fun x y H Q => ∃ a b xs ys, x = .ref a ∧ y = .ref b ∧ SqT K H a xs ∧ SqT K H b ys ∧ xs.length + ys.length ≤ sizeLine ∧
  (xs = [] → Q (.ref b) H) ∧ (ys = [] → Q (.ref a) H) ∧ NewT (xs ++ ys) H Q
theorem op_catS (cat0 : ∀ {prog : Program} {wd : World} {A : Around} {E : Value → Shared → Prop} {s : Shared} {t b : Addr} {ws : List Value} {Q : Value → Shared → Prop}, IsTup s.heap t ([] : List Value).toArray → IsTup s.heap b ws.toArray → Q (.ref b) s → wpAny (model prog wd) A (binaryOp .Add (.ref t) (.ref b)) Q E s) :
    OpR X (binaryOp .Add) (rCatS X.K) := by
  intro pins s σ H x y v u Q I rx ry h
  obtain ⟨a, b, xs, ys, rfl, rfl, ha, hb, hz, q0, q1, q2⟩ := h
  cases rx
  cases ry
  obtain ⟨its, r1, p1, _⟩ := I.tuple ha
  obtain ⟨its2, r2, p2, _⟩ := I.tuple hb
  by_cases hx : xs = []
  · subst hx
    cases r1
    exact cat0 p1 p2 ⟨.ref b, H, I, rfl, q0 rfl⟩
  · refine HT.cat_tup p1 p2 (fun z => hx (r1.nil_iff.mp z)) (fun z => ⟨.ref a, H, I, rfl, q1 (r2.nil_iff.mp z)⟩) (fun _ => ?_) ?_
    · exact new_tup I (r1.append r2) (by rw [List.length_append]; exact hz) q2
    · rw [← r1.length, ← r2.length]
      exact hz
end

/-! ### the judgements -/
abbrev TDE := En → (Da → Prop) → Prop
abbrev TDT := En → (Bool → Prop) → Prop
abbrev TDA := En → (List Da → Prop) → Prop
structure EnD where
  nx : En → Prop
  rt : Da → Prop
  bk : En → Prop := fun _ => False
  ct : En → Prop := fun _ => False
abbrev TDS := EnD → En → Prop
/-- what follows a datum -/
def Aft (K : PySem.W.Frag) (g : Gd) (W : Addr → Bool) (H : Hp) (Q : VK) (d : Da) : Prop :=
  ∀ v H', Ext g H H' → OkW K g W H' → Dv K g (hid W H') v d → Q v H'
def AftA (K : PySem.W.Frag) (g : Gd) (W : Addr → Bool) (H : Hp) (Q : List V → Hp → Prop) (ds : List Da) : Prop :=
  ∀ vs H', Ext g H H' → OkW K g W H' → DvAll K g (hid W H') vs ds → Q vs H'
def AftT (K : PySem.W.Frag) (g : Gd) (W : Addr → Bool) (H : Hp) (Q : Bool → Hp → Prop) (b : Bool) : Prop :=
  ∀ H', Ext g H H' → OkW K g W H' → Q b H'
def liE (K : PySem.W.Frag) (w : Wd) (t : TDE) : TE := fun σ H Q => ∃ W own r, Stt K w W own r σ H ∧ t r (Aft K w.g W H Q)
def liT (K : PySem.W.Frag) (w : Wd) (t : TDT) : TT := fun σ H Q => ∃ W own r, Stt K w W own r σ H ∧ t r (AftT K w.g W H Q)
def liA (K : PySem.W.Frag) (w : Wd) (t : TDA) : TA := fun σ H Q => ∃ W own r, Stt K w W own r σ H ∧ t r (AftA K w.g W H Q)
structure PEd (X : Cx) (w : Wd) (e : Expr) (t : TDE) : Prop where
  pe : PE X e (liE X.K w t)
  mo : ∀ r Q Q', (∀ d, Q d → Q' d) → t r Q → t r Q'
structure PTd (X : Cx) (w : Wd) (e : Expr) (t : TDT) : Prop where
  pt : PT X e (liT X.K w t)
  mo : ∀ r Q Q', (∀ b, Q b → Q' b) → t r Q → t r Q'
/-- .. and, or: whatever the whole is -/
structure PWd (X : Cx) (w : Wd) (e : Expr) (t : TDT) : Prop where
  pw : PW X e (liT X.K w t)
  mo : ∀ r Q Q', (∀ b, Q b → Q' b) → t r Q → t r Q'
structure PAd (X : Cx) (w : Wd) (es : List Expr) (t : TDA) : Prop where
  pa : PA X es (liA X.K w t)
  mo : ∀ r Q Q', (∀ d, Q d → Q' d) → t r Q → t r Q'

section
variable {X : Cx} {e a b : Expr} {es : List Expr} {pos : Pos} {w : Wd}
theorem weE {t t' : TE} (h : PE X e t) (le : ∀ σ H Q, t' σ H Q → t σ H Q) : PE X e t' := ⟨fun pins s σ H Q I q => h.run pins s σ H Q I (le _ _ _ q)⟩
theorem weT {t t' : TT} (h : PT X e t) (le : ∀ σ H Q, t' σ H Q → t σ H Q) : PT X e t' := ⟨fun pins s σ H Q I q => h.run pins s σ H Q I (le _ _ _ q)⟩
theorem weW {t t' : TT} (h : PW X e t) (le : ∀ σ H Q, t' σ H Q → t σ H Q) : PW X e t' := ⟨fun wh pins s σ H Q I q => h.run wh pins s σ H Q I (le _ _ _ q)⟩
theorem weA {t t' : TA} (h : PA X es t) (le : ∀ σ H Q, t' σ H Q → t σ H Q) : PA X es t' := ⟨fun p pins s σ H Q I q => h.run p pins s σ H Q I (le _ _ _ q)⟩
theorem PWd.pt {t : TDT} (h : PWd X w e t) : PTd X w e t := ⟨PW.pt h.pw, h.mo⟩

/-! one part, then something -/
theorem go1 {ta : TDE} (ha : PEd X w a ta) {W : Addr → Bool} {own : Ow} {r : En} {σ : L2.St} {H : Hp} (S : Stt X.K w W own r σ H) {P : Da → Prop} {R : V → Hp → Prop} (h : ta r P)
    (k : ∀ x v H1, Ext w.g H H1 → OkW X.K w.g W H1 → Dv X.K w.g (hid W H1) v x → P x → R v H1) : liE X.K w ta σ H R :=
  ⟨W, own, r, S, ha.mo _ _ _ (fun x px v H1 e1 k1 d1 => k x v H1 e1 k1 d1 px) h⟩
theorem go2 {ta tb : TDE} (ha : PEd X w a ta) (hb : PEd X w b tb) {W : Addr → Bool} {own : Ow} {r : En} {σ : L2.St} {H : Hp} (S : Stt X.K w W own r σ H) {P : Da → Da → Prop} {R : V → V → Hp → Prop} (h : ta r fun x => tb r fun y => P x y)
    (k : ∀ x y v u H1, Ext w.g H H1 → OkW X.K w.g W H1 → Dv X.K w.g (hid W H1) v x → Dv X.K w.g (hid W H1) u y → P x y → R v u H1) :
    liE X.K w ta σ H fun v H1 => liE X.K w tb σ H1 fun u H2 => R v u H2 :=
  go1 ha S h fun x v H1 e1 k1 d1 px => go1 hb (S.ext e1 k1) px fun y u H2 e2 k2 d2 py => k x y v u H2 (e1.trans e2) k2 (Dv.mono (e2.hid k1.gW) _ _ d1) d2 py
theorem goA {t : TDA} (ha : PAd X w es t) {W : Addr → Bool} {own : Ow} {r : En} {σ : L2.St} {H : Hp} (S : Stt X.K w W own r σ H) {P : List Da → Prop} {R : List V → Hp → Prop} (h : t r P)
    (k : ∀ xs vs H1, Ext w.g H H1 → OkW X.K w.g W H1 → DvAll X.K w.g (hid W H1) vs xs → P xs → R vs H1) : liA X.K w t σ H R :=
  ⟨W, own, r, S, ha.mo _ _ _ (fun x px v H1 e1 k1 d1 => k x v H1 e1 k1 d1 px) h⟩
theorem Aft.then {K : PySem.W.Frag} {g : Gd} {W : Addr → Bool} {H H1 : Hp} {Q : VK} {d : Da} (h : Aft K g W H Q d) (e : Ext g H H1) : Aft K g W H1 Q d := fun v H' e' k dv => h v H' (e.trans e') k dv

/-! ### names and constants -/
def dVar (i : Nat) : TDE := fun r Q => ∃ d, r[i]? = some (.dat d) ∧ Q d
def dC (d : Da) : TDE := fun _ Q => Q d
theorem ped_var (i : Nat) {x : Str} {p : Pos} (hN : X.N[i]? = some x := by rfl) (hv : Vis X.env.scope x := by first | exact Or.inl rfl | exact Or.inr (Or.inl rfl) | exact Or.inr (Or.inr rfl)) (hd : (x == ("__debug__" : Str)) = false := by decide)
    (hcd : (x == ("__classdict__" : Str)) = false := by decide) : PEd X w (.Name x p) (dVar i) := by
  refine ⟨weE (pe_var hN hv hd hcd) ?_, fun r Q Q' q ⟨d, h1, h2⟩ => ⟨d, h1, q d h2⟩⟩
  rintro σ H Q ⟨W, own, r, S, d, h1, h2⟩
  obtain ⟨v, e1, dv⟩ := S.dat h1
  exact ⟨v, e1, h2 v H Ext.refl S.ok dv⟩
theorem ped_c {t : TE} {d : Da} {v : V} (h : PE X e t) (ht : ∀ σ H Q, Q v H → t σ H Q) (hd : ∀ K g H, Dv K g H v d) : PEd X w e (dC d) := by
  refine ⟨weE h ?_, fun r Q Q' q h => q d h⟩
  rintro σ H Q ⟨W, own, r, S, h1⟩
  exact ht σ H Q (h1 v H Ext.refl S.ok (hd _ _ _))
theorem ped_int {i j p} : PEd X w (.Constant (.int i) j p) (dC (.int i)) := ped_c pe_int (fun _ _ _ q => q) fun _ _ _ => .int i
theorem ped_bl {i j p} : PEd X w (.Constant (.bool i) j p) (dC (.bl i)) := ped_c pe_bl (fun _ _ _ q => q) fun _ _ _ => .bl i
theorem ped_str {i j p} : PEd X w (.Constant (.str i) j p) (dC (.str i)) := ped_c pe_str (fun _ _ _ q => q) fun _ _ _ => .str i

/-! ### two operands -/
abbrev DD := Da → Da → (Da → Prop) → Prop
def Mo2 (D : DD) : Prop := ∀ x y Q Q', (∀ d, Q d → Q' d) → D x y Q → D x y Q'
def Br2 (K : PySem.W.Frag) (R : R2) (D : DD) : Prop := ∀ (g : Gd) (W : Addr → Bool) (H : Hp) (v u : V) (x y : Da) (Q : VK), OkW K g W H → Dv K g (hid W H) v x → Dv K g (hid W H) u y → D x y (Aft K g W H Q) → R v u H Q
def dOp (D : DD) (ta tb : TDE) : TDE := fun r Q => ta r fun x => tb r fun y => D x y Q
theorem dOp_mo {D : DD} (m : Mo2 D) {ta tb : TDE} (ha : PEd X w a ta) (hb : PEd X w b tb) : ∀ r Q Q', (∀ d, Q d → Q' d) → dOp D ta tb r Q → dOp D ta tb r Q' :=
  fun r Q Q' q h => ha.mo _ _ _ (fun x hx => hb.mo _ _ _ (fun y hy => m x y _ _ q hy) hx) h
theorem mo_aft {D : DD} (m : Mo2 D) {K : PySem.W.Frag} {g : Gd} {W : Addr → Bool} {H H1 : Hp} {Q : VK} {x y : Da} (e : Ext g H H1) (h : D x y (Aft K g W H Q)) : D x y (Aft K g W H1 Q) := m _ _ _ _ (fun d q => q.then e) h
theorem ped_bin {op : Operator} {R : R2} {D : DD} {ta tb : TDE} (ho : OpR X (binaryOp op) R) (m : Mo2 D) (br : Br2 X.K R D) (ha : PEd X w a ta) (hb : PEd X w b tb) : PEd X w (.BinOp a op b pos) (dOp D ta tb) := by
  refine ⟨weE (pe_op ho ha.pe hb.pe) ?_, dOp_mo m ha hb⟩
  rintro σ H Q ⟨W, own, r, S, h⟩
  exact go2 ha hb S h fun x y v u H1 e1 k1 d1 d2 p => br _ _ _ _ _ _ _ _ k1 d1 d2 (mo_aft m e1 p)
theorem ped_cmp {op : CmpOp} {R : R2} {D : DD} {ta tb : TDE} (ho : OpR X (compareOp op) R) (hm : behindInMarks op b = false) (m : Mo2 D) (br : Br2 X.K R D) (ha : PEd X w a ta) (hb : PEd X w b tb) : PEd X w (.Compare a [op] [b] pos) (dOp D ta tb) := by
  refine ⟨weE (pe_cmpR ho ha.pe hb.pe hm) ?_, dOp_mo m ha hb⟩
  rintro σ H Q ⟨W, own, r, S, h⟩
  exact go2 ha hb S h fun x y v u H1 e1 k1 d1 d2 p => br _ _ _ _ _ _ _ _ k1 d1 d2 (mo_aft m e1 p)
theorem ped_ix {R : R2} {D : DD} {ta tb : TDE} (ho : IxR X R) (hs : PlainIx b) (m : Mo2 D) (br : Br2 X.K R D) (ha : PEd X w a ta) (hb : PEd X w b tb) : PEd X w (.Subscript a b pos) (dOp D ta tb) := by
  refine ⟨weE (pe_ix ho ha.pe hb.pe hs) ?_, dOp_mo m ha hb⟩
  rintro σ H Q ⟨W, own, r, S, h⟩
  exact go2 ha hb S h fun x y v u H1 e1 k1 d1 d2 p => br _ _ _ _ _ _ _ _ k1 d1 d2 (mo_aft m e1 p)
/-- one operand -/
abbrev D1 := Da → (Da → Prop) → Prop
def Mo1 (D : D1) : Prop := ∀ x Q Q', (∀ d, Q d → Q' d) → D x Q → D x Q'
def Br1 (K : PySem.W.Frag) (R : V → Hp → VK → Prop) (D : D1) : Prop := ∀ (g : Gd) (W : Addr → Bool) (H : Hp) (v : V) (x : Da) (Q : VK), OkW K g W H → Dv K g (hid W H) v x → D x (Aft K g W H Q) → R v H Q
def dUn (D : D1) (ta : TDE) : TDE := fun r Q => ta r fun x => D x Q
theorem ped_un {op : UnaryOp} {R : V → Hp → VK → Prop} {D : D1} {ta : TDE} (ho : UnR X (unaryOp op) R) (m : Mo1 D) (br : Br1 X.K R D) (ha : PEd X w a ta) : PEd X w (.UnaryOp op a pos) (dUn D ta) := by
  refine ⟨weE (pe_un ho ha.pe) ?_, fun r Q Q' q h => ha.mo _ _ _ (fun x hx => m x _ _ q hx) h⟩
  rintro σ H Q ⟨W, own, r, S, h⟩
  exact go1 ha S h fun x v H1 e1 k1 d1 p => br _ _ _ _ _ _ k1 d1 (m _ _ _ (fun d q => q.then e1) p)
end
end Pd
/-! Operators on data. -/
namespace Pd
open PySem PySem.Spec PyProof.Rows L2

/-! ### data as the library's -/
mutual
def toP : Da → PyData
  | .non => .none
  | .bl b => .bool b
  | .int i => .int i
  | .str x => .str x
  | .lst xs => .list (toPs xs)
  | .tup xs => .tuple (toPs xs)
  | .tpw xs => .tuple (toPs xs)
  | .dct _ => .dict []
  | .bag => .dict []
  | .raw _ => .dict []
  | .fix _ => .dict []
def toPs : List Da → List PyData
  | [] => []
  | x :: xs => toP x :: toPs xs
end
mutual
def canP : Da → Bool
  | .non => true
  | .bl _ => true
  | .int _ => true
  | .str _ => true
  | .lst xs => canPs xs
  | .tup xs => canPs xs
  | .tpw xs => canPs xs
  | .dct _ => false
  | .bag => false
  | .raw _ => false
  | .fix _ => false
def canPs : List Da → Bool
  | [] => true
  | x :: xs => canP x && canPs xs
end
mutual
theorem Dv.dp {K : PySem.W.Frag} {g : Gd} {H : Hp} : ∀ (d : Da) (v : V), Dv K g H v d → canP d = true → Dp K H v (toP d)
  | .non, _, h, _ => by cases h; exact .non
  | .bl _, _, h, _ => by cases h; exact .bl _
  | .int _, _, h, _ => by cases h; exact .int _
  | .str _, _, h, _ => by cases h; exact .str _
  | .lst ds, _, h, c => by
    cases h with
    | lst h1 h2 =>
      rw [toP]
      exact .lst (SqL.of h1) (DvAll.dp ds _ h2 (by rw [canP] at c; exact c))
  | .tup ds, _, h, c => by
    cases h with
    | tup h1 h2 =>
      rw [toP]
      exact .tup h1.sq (DvAll.dp ds _ h2 (by rw [canP] at c; exact c))
  | .tpw ds, _, h, c => by
    cases h with
    | tpw h1 h2 =>
      rw [toP]
      exact .tup h1 (DvAll.dp ds _ h2 (by rw [canP] at c; exact c))
  | .dct _, _, _, c => by rw [canP] at c; cases c
  | .bag, _, _, c => by rw [canP] at c; cases c
  | .raw _, _, _, c => by rw [canP] at c; cases c
  | .fix _, _, _, c => by rw [canP] at c; cases c
theorem DvAll.dp {K : PySem.W.Frag} {g : Gd} {H : Hp} : ∀ (ds : List Da) (vs : List V), DvAll K g H vs ds → canPs ds = true → DpAll K H vs (toPs ds)
  | [], _, h, _ => by cases h; rw [toPs]; exact .nil
  | d :: ds, _, h, c => by
    cases h with
    | cons h1 h2 =>
      rw [canPs, Bool.and_eq_true] at c
      rw [toPs]
      exact .cons (Dv.dp d _ h1 c.1) (DvAll.dp ds _ h2 c.2)
end
/-- comparable by == -/
def shp (d : Da) : Bool := canP d && SeqAt.shaped (toP d)
/-- == -/
def eqd (x y : Da) : Bool := PyData.eqv (toP x) (toP y)

section
variable {K : PySem.W.Frag} {g : Gd} {W : Addr → Bool} {H : Hp} {Q : VK}
theorem Aft.now {d : Da} {v : V} (h : Aft K g W H Q d) (k : OkW K g W H) (dv : Dv K g (hid W H) v d) : Q v H := h v H Ext.refl k dv
theorem Aft.newL {p : Addr} {xs : List V} {ds : List Da} (h : Aft K g W H Q (.lst ds)) (k : OkW K g W H) (np : H p = none) (dv : DvAll K g (hid W H) xs ds) : Q (.ref p) (upd H p (.lst xs)) := by
  obtain ⟨e, k', s, q⟩ := k.new (o := .lst xs) np
  exact h _ _ e k' (.lst q (DvAll.mono s _ _ dv))
theorem Aft.newT {xs : List V} {ds : List Da} (h : Aft K g W H Q (.tup ds)) (k : OkW K g W H) (dv : DvAll K g (hid W H) xs ds) : NewT xs H Q := by
  intro p o np no
  obtain ⟨e, k', s, q⟩ := k.new (o := .frz o (.tup xs)) np
  exact h _ _ e k' (.tup (.inl ⟨o, q, no⟩) (DvAll.mono s _ _ dv))
theorem sq_hid {a : Addr} {xs : List V} (h : SqT K (hid W H) a xs) : SqT K H a xs := sqt_mono hid_sub h
end

/-! ### + -/
def addD : DD := fun x y Q => match x, y with
  | .int i, .int j => Q (.int (i + j))
  | .str a, .str b => a.length + b.length ≤ sizeLine ∧ Q (.str (a ++ b))
  | .lst xs, .lst ys => xs.length + ys.length ≤ sizeLine ∧ Q (.lst (xs ++ ys))
  | .tup xs, .tup ys => xs.length + ys.length ≤ sizeLine ∧ Q (.tup (xs ++ ys))
  | _, _ => False
theorem addD_mo : Mo2 addD := by
  intro x y Q Q' q h
  unfold addD at h ⊢
  split at h
  · exact q _ h
  · exact ⟨h.1, q _ h.2⟩
  · exact ⟨h.1, q _ h.2⟩
  · exact ⟨h.1, q _ h.2⟩
  · exact h.elim
def rAddU (K : PySem.W.Frag) : R2 := fun x y H Q => ((rI0 (fun i j => .int (i + j)) x y H Q ∨ (∃ i j, x = .str i ∧ y = .str j ∧ i.length + j.length ≤ sizeLine ∧ Q (.str (i ++ j)) H)) ∨ rCat x y H Q) ∨ rCatS K x y H Q
section
variable {X : Cx}
theorem op_addU : OpR X (binaryOp .Add) (rAddU X.K) := ((op_add.or op_add_str).or op_cat).or (op_catS fun h1 h2 h3 => cat_tup0 h1 h2 h3)
theorem addD_br : Br2 X.K (rAddU X.K) addD := by
  intro g W H v u x y Q k dx dy h
  unfold addD at h
  split at h
  · cases dx; cases dy
    exact .inl (.inl (.inl ⟨_, _, rfl, rfl, h.now k (.int _)⟩))
  · cases dx; cases dy
    exact .inl (.inl (.inr ⟨_, _, rfl, rfl, h.1, h.2.now k (.str _)⟩))
  · cases dx with
    | lst a1 a2 =>
      cases dy with
      | lst b1 b2 =>
        exact .inl (.inr ⟨_, _, _, _, rfl, rfl, (hid_some a1).2, (hid_some b1).2, by rw [a2.len, b2.len]; exact h.1, fun p np => h.2.newL k np (a2.app b2)⟩)
  · cases dx with
    | tup a1 a2 =>
      cases dy with
      | tup b1 b2 =>
        refine .inr ⟨_, _, _, _, rfl, rfl, sq_hid a1.sq, sq_hid b1.sq, by rw [a2.len, b2.len]; exact h.1, fun z => ?_, fun z => ?_, h.2.newT k (a2.app b2)⟩
        · subst z
          cases a2
          exact h.2.now k (.tup b1 b2)
        · subst z
          cases b2
          exact h.2.now k (by rw [List.append_nil]; exact .tup a1 a2)
  · exact h.elim
end

/-! ### ints -/
def intD (C : Int → Int → Prop) (f : Int → Int → Int) : DD := fun x y Q => match x, y with
  | .int i, .int j => C i j ∧ Q (.int (f i j))
  | _, _ => False
theorem intD_mo {C : Int → Int → Prop} {f : Int → Int → Int} : Mo2 (intD C f) := by
  intro x y Q Q' q h
  unfold intD at h ⊢
  split at h
  · exact ⟨h.1, q _ h.2⟩
  · exact h.elim
theorem intD_br {K : PySem.W.Frag} {C : Int → Int → Prop} {f : Int → Int → Int} : Br2 K (rI C fun i j => .int (f i j)) (intD C f) := by
  intro g W H v u x y Q k dx dy h
  unfold intD at h
  split at h
  · cases dx; cases dy
    exact ⟨_, _, rfl, rfl, h.1, h.2.now k (.int _)⟩
  · exact h.elim
def CMulA (i j : Int) : Prop := CMul i j ∨ CMulW i j
def subD : DD := intD (fun _ _ => True) fun i j => i - j
def mulD : DD := intD CMulA fun i j => i * j
def modD : DD := intD (fun _ j => 0 < j) fun i j => i % j
section
variable {X : Cx}
theorem rI_or {C C' : Int → Int → Prop} {f : Int → Int → V} {h : Value → Value → Sem Value} (a : OpR X h (rI C f)) (b : OpR X h (rI C' f)) : OpR X h (rI (fun i j => C i j ∨ C' i j) f) := by
  intro pins s σ H x y v u Q I rx ry q
  obtain ⟨i, j, e1, e2, c, q⟩ := q
  rcases c with c | c
  · exact a pins s σ H x y v u Q I rx ry ⟨i, j, e1, e2, c, q⟩
  · exact b pins s σ H x y v u Q I rx ry ⟨i, j, e1, e2, c, q⟩
theorem op_subT : OpR X (binaryOp .Sub) (rI (fun _ _ => True) fun i j => .int (i - j)) := by
  intro pins s σ H x y v u Q I rx ry q
  obtain ⟨i, j, e1, e2, _, q⟩ := q
  exact op_sub pins s σ H x y v u Q I rx ry ⟨i, j, e1, e2, q⟩
end
section
variable {X : Cx} {w : Wd} {a b : Expr} {pos : Pos} {ta tb : TDE}
theorem ped_add (ha : PEd X w a ta) (hb : PEd X w b tb) : PEd X w (.BinOp a .Add b pos) (dOp addD ta tb) := ped_bin op_addU addD_mo addD_br ha hb
theorem ped_sub (ha : PEd X w a ta) (hb : PEd X w b tb) : PEd X w (.BinOp a .Sub b pos) (dOp subD ta tb) := ped_bin op_subT intD_mo intD_br ha hb
theorem ped_mul (ha : PEd X w a ta) (hb : PEd X w b tb) : PEd X w (.BinOp a .Mult b pos) (dOp mulD ta tb) := ped_bin (rI_or op_mul op_mulW) intD_mo intD_br ha hb
theorem ped_mod (ha : PEd X w a ta) (hb : PEd X w b tb) : PEd X w (.BinOp a .Mod b pos) (dOp modD ta tb) := ped_bin op_mod intD_mo intD_br ha hb
/-- [..] * n -/
def repD : DD := fun x y Q => match x, y with
  | .lst xs, .int n => -(2 ^ 63) ≤ n ∧ n < 2 ^ 63 ∧ xs.length * n.toNat ≤ sizeLine ∧ Q (.lst (List.replicate n.toNat xs).flatten)
  | _, _ => False
theorem repD_mo : Mo2 repD := by
  intro x y Q Q' q h
  unfold repD at h ⊢
  split at h
  · exact ⟨h.1, h.2.1, h.2.2.1, q _ h.2.2.2⟩
  · exact h.elim
theorem DvAll.rep {K : PySem.W.Frag} {g : Gd} {H : Hp} {xs : List V} {ds : List Da} (h : DvAll K g H xs ds) : ∀ n : Nat, DvAll K g H (List.replicate n xs).flatten (List.replicate n ds).flatten
  | 0 => .nil
  | n + 1 => by
    rw [List.replicate_succ, List.replicate_succ, List.flatten_cons, List.flatten_cons]
    exact h.app (h.rep n)
theorem repD_br : Br2 X.K rRep repD := by
  intro g W H v u x y Q k dx dy h
  unfold repD at h
  split at h
  · cases dy
    cases dx with
    | lst a1 a2 =>
      obtain ⟨h1, h2, h3, h4⟩ := h
      exact ⟨_, _, _, rfl, rfl, (hid_some a1).2, h1, h2, by rw [a2.len]; exact h3, fun p np => h4.newL k np (a2.rep _)⟩
  · exact h.elim
theorem ped_rep (ha : PEd X w a ta) (hb : PEd X w b tb) : PEd X w (.BinOp a .Mult b pos) (dOp repD ta tb) := ped_bin op_rep repD_mo repD_br ha hb
/-- -n -/
def negD : D1 := fun x Q => match x with
  | .int i => Q (.int (-i))
  | _ => False
theorem negD_mo : Mo1 negD := by
  intro x Q Q' q h
  unfold negD at h ⊢
  split at h
  · exact q _ h
  · exact h.elim
theorem ped_neg (ha : PEd X w a ta) : PEd X w (.UnaryOp .USub a pos) (dUn negD ta) := by
  refine ped_un un_neg negD_mo ?_ ha
  intro g W H v x Q k dx h
  unfold negD at h
  split at h
  · cases dx
    exact ⟨_, rfl, h.now k (.int _)⟩
  · exact h.elim
end

/-! ### comparisons -/
def eqD (neg : Bool) : DD := fun x y Q => shp x = true ∧ shp y = true ∧ Q (.bl (if neg then !eqd x y else eqd x y))
theorem eqD_mo {n : Bool} : Mo2 (eqD n) := fun _ _ _ _ q h => ⟨h.1, h.2.1, q _ h.2.2⟩
def ordD (fi : Int → Int → Bool) (fs : Str → Str → Bool) : DD := fun x y Q => match x, y with
  | .int i, .int j => Q (.bl (fi i j))
  | .str i, .str j => Q (.bl (fs i j))
  | _, _ => False
theorem ordD_mo {fi : Int → Int → Bool} {fs : Str → Str → Bool} : Mo2 (ordD fi fs) := by
  intro x y Q Q' q h
  unfold ordD at h ⊢
  split at h
  · exact q _ h
  · exact q _ h
  · exact h.elim
def ltS (a b : Str) : Bool := decide (a.cps.toList < b.cps.toList)
def ltD : DD := ordD (fun i j => decide (i < j)) fun a b => ltS a b
def gtD : DD := ordD (fun i j => decide (j < i)) fun a b => ltS b a
section
variable {X : Cx} {w : Wd} {a b : Expr} {pos : Pos} {ta tb : TDE}
theorem ordD_br {fi : Int → Int → Bool} {fs : Str → Str → Bool} : Br2 X.K (fun x y H Q => rI0 (fun i j => .bl (fi i j)) x y H Q ∨ ∃ i j, x = .str i ∧ y = .str j ∧ Q (.bl (fs i j)) H) (ordD fi fs) := by
  intro g W H v u x y Q k dx dy h
  unfold ordD at h
  split at h
  · cases dx; cases dy
    exact .inl ⟨_, _, rfl, rfl, h.now k (.bl _)⟩
  · cases dx; cases dy
    exact .inr ⟨_, _, rfl, rfl, h.now k (.bl _)⟩
  · exact h.elim
theorem shp_dp {K : PySem.W.Frag} {g : Gd} {W : Addr → Bool} {H : Hp} {v : V} {d : Da} (h : Dv K g (hid W H) v d) (s : shp d = true) : Dp K H v (toP d) ∧ SeqAt.shaped (toP d) = true := by
  unfold shp at s
  rw [Bool.and_eq_true] at s
  exact ⟨Dv.dp d _ (Dv.mono hid_sub _ _ h) s.1, s.2⟩
theorem eqD_br : Br2 X.K (rEqD X.K) (eqD false) := by
  intro g W H v u x y Q k dx dy h
  obtain ⟨h1, h2, h3⟩ := h
  obtain ⟨a1, a2⟩ := shp_dp dx h1
  obtain ⟨b1, b2⟩ := shp_dp dy h2
  exact ⟨_, _, a1, b1, a2, b2, h3.now k (.bl _)⟩
theorem neD_br : Br2 X.K (rNeD X.K) (eqD true) := by
  intro g W H v u x y Q k dx dy h
  obtain ⟨h1, h2, h3⟩ := h
  obtain ⟨a1, a2⟩ := shp_dp dx h1
  obtain ⟨b1, b2⟩ := shp_dp dy h2
  exact ⟨_, _, a1, b1, a2, b2, h3.now k (.bl _)⟩
theorem ped_eq {k : Nat} (hr : Room k X.A) (ha : PEd X w a ta) (hb : PEd X w b tb) : PEd X w (.Compare a [.Eq] [b] pos) (dOp (eqD false) ta tb) := ped_cmp (op_eqD hr.units) (nobehind _ (by decide) (by decide)) eqD_mo eqD_br ha hb
theorem ped_ne {k : Nat} (hr : Room k X.A) (ha : PEd X w a ta) (hb : PEd X w b tb) : PEd X w (.Compare a [.NotEq] [b] pos) (dOp (eqD true) ta tb) := ped_cmp (op_neD hr.units) (nobehind _ (by decide) (by decide)) eqD_mo neD_br ha hb
theorem ped_gt (ha : PEd X w a ta) (hb : PEd X w b tb) : PEd X w (.Compare a [.Gt] [b] pos) (dOp gtD ta tb) := ped_cmp (op_gt.or op_gt_str) (nobehind _ (by decide) (by decide)) ordD_mo ordD_br ha hb
end

/-! ### items -/
def ixD : DD := fun x y Q => match x, y with
  | .lst xs, .int i => ∃ d, atI xs i = some d ∧ Q d
  | .tup xs, .int i => ∃ d, atI xs i = some d ∧ Q d
  | .tpw xs, .int i => ∃ d, atI xs i = some d ∧ Q d
  | .str z, .int i => z.length ≤ sizeLine ∧ ∃ c, atI z.cps.toList i = some c ∧ Q (.str ⟨#[c]⟩)
  | _, _ => False
theorem ixD_mo : Mo2 ixD := by
  intro x y Q Q' q h
  unfold ixD at h ⊢
  split at h
  · obtain ⟨d, h1, h2⟩ := h; exact ⟨d, h1, q _ h2⟩
  · obtain ⟨d, h1, h2⟩ := h; exact ⟨d, h1, q _ h2⟩
  · obtain ⟨d, h1, h2⟩ := h; exact ⟨d, h1, q _ h2⟩
  · obtain ⟨h0, d, h1, h2⟩ := h; exact ⟨h0, d, h1, q _ h2⟩
  · exact h.elim
theorem DvAll.atI {K : PySem.W.Frag} {g : Gd} {H : Hp} {xs : List V} {ds : List Da} {i : Int} {d : Da} (h : DvAll K g H xs ds) (e : L2.atI ds i = some d) : ∃ v, L2.atI xs i = some v ∧ Dv K g H v d := by
  unfold L2.atI at e ⊢
  rw [h.len]
  cases q : ixN ds.length i with
  | none => rw [q] at e; cases e
  | some j =>
    rw [q] at e
    exact h.at (show ds[j]? = some d from e)
section
variable {X : Cx} {w : Wd} {a b : Expr} {pos : Pos} {ta tb : TDE}
theorem ixD_br : Br2 X.K (rIx X.K) ixD := by
  intro g W H v u x y Q k dx dy h
  unfold ixD at h
  split at h
  · cases dy
    cases dx with
    | lst a1 a2 =>
      obtain ⟨d, h1, h2⟩ := h
      obtain ⟨z, z1, z2⟩ := a2.atI h1
      exact .inl ⟨_, _, _, z, rfl, rfl, SqL.of (hid_some a1).2, z1, h2.now k z2⟩
  · cases dy
    cases dx with
    | tup a1 a2 =>
      obtain ⟨d, h1, h2⟩ := h
      obtain ⟨z, z1, z2⟩ := a2.atI h1
      exact .inr (.inl ⟨_, _, _, z, rfl, rfl, sq_hid a1.sq, z1, h2.now k z2⟩)
  · cases dy
    cases dx with
    | tpw a1 a2 =>
      obtain ⟨d, h1, h2⟩ := h
      obtain ⟨z, z1, z2⟩ := a2.atI h1
      exact .inr (.inl ⟨_, _, _, z, rfl, rfl, sq_hid a1, z1, h2.now k z2⟩)
  · cases dy
    cases dx
    obtain ⟨h0, c, h1, h2⟩ := h
    exact .inr (.inr ⟨_, _, c, rfl, rfl, h0, h1, h2.now k (.str _)⟩)
  · exact h.elim
theorem ped_at (hs : PlainIx b) (ha : PEd X w a ta) (hb : PEd X w b tb) : PEd X w (.Subscript a b pos) (dOp ixD ta tb) := ped_ix ix_seq hs ixD_mo ixD_br ha hb
end
end Pd
/-! Tests, calls, statements, loops, comprehensions on data. -/
namespace Pd
open PySem PySem.Spec PyProof.Rows L2

/-! ### tests -/
section
variable {X : Cx} {w : Wd} {e a b : Expr} {es : List Expr} {pos : Pos} {ta tb : TDE}
def dB (t : TDE) : TDT := fun r Q => t r fun d => ∃ c, d = .bl c ∧ Q c
theorem dB_mo {t : TDE} (m : ∀ r Q Q', (∀ d, Q d → Q' d) → t r Q → t r Q') : ∀ r Q Q', (∀ b, Q b → Q' b) → dB t r Q → dB t r Q' :=
  fun r Q Q' q h => m _ _ _ (fun d ⟨c, e, z⟩ => ⟨c, e, q c z⟩) h
theorem dB_in {t : TDE} (h : PEd X w e t) {σ : L2.St} {H : Hp} {Q : Bool → Hp → Prop} (q : liT X.K w (dB t) σ H Q) : liE X.K w t σ H fun x H1 => ∃ c, x = .bl c ∧ Q c H1 := by
  obtain ⟨W, own, r, S, q⟩ := q
  refine go1 h S q fun x v H1 e1 k1 d1 p => ?_
  obtain ⟨c, rfl, p⟩ := p
  cases d1
  exact ⟨c, rfl, p H1 e1 k1⟩
/-- a test by a value that is a truth -/
theorem ptd_val {t : TDE} (h : PEd X w e t) (he : ∀ whole, isTrue e X.env whole = (do let v ← whole; standAt e.pos; holding [v] (truthy v)) := by intro _; rfl) : PTd X w e (dB t) :=
  ⟨weT (pt_val h.pe he) fun σ H Q q => dB_in h q, dB_mo h.mo⟩
theorem ptd_cmp {op : CmpOp} {R : R2} {D : DD} (ho : OpR X (compareOp op) R) (hm : behindInMarks op b = false) (m : Mo2 D) (br : Br2 X.K R D) (ha : PEd X w a ta) (hb : PEd X w b tb) : PTd X w (.Compare a [op] [b] pos) (dB (dOp D ta tb)) := by
  refine ⟨weT (pt_cmpR ho ha.pe hb.pe hm) ?_, dB_mo (dOp_mo m ha hb)⟩
  intro σ H Q q
  obtain ⟨W, own, r, S, q⟩ := q
  refine go2 ha hb S q fun x y v u H1 e1 k1 d1 d2 p => br _ _ _ _ _ _ _ _ k1 d1 d2 (m _ _ _ _ ?_ p)
  rintro d ⟨c, rfl, p⟩ v' H' e' k' d'
  cases d'
  exact ⟨c, rfl, p H' (e1.trans e') k'⟩
theorem ptd_eq {k : Nat} (hr : Room k X.A) (ha : PEd X w a ta) (hb : PEd X w b tb) : PTd X w (.Compare a [.Eq] [b] pos) (dB (dOp (eqD false) ta tb)) := ptd_cmp (op_eqD hr.units) (nobehind _ (by decide) (by decide)) eqD_mo eqD_br ha hb
theorem ptd_ne {k : Nat} (hr : Room k X.A) (ha : PEd X w a ta) (hb : PEd X w b tb) : PTd X w (.Compare a [.NotEq] [b] pos) (dB (dOp (eqD true) ta tb)) := ptd_cmp (op_neD hr.units) (nobehind _ (by decide) (by decide)) eqD_mo neD_br ha hb
theorem ptd_lt (ha : PEd X w a ta) (hb : PEd X w b tb) : PTd X w (.Compare a [.Lt] [b] pos) (dB (dOp ltD ta tb)) := ptd_cmp (op_lt.or op_lt_str) (nobehind _ (by decide) (by decide)) ordD_mo ordD_br ha hb
theorem ptd_gt (ha : PEd X w a ta) (hb : PEd X w b tb) : PTd X w (.Compare a [.Gt] [b] pos) (dB (dOp gtD ta tb)) := ptd_cmp (op_gt.or op_gt_str) (nobehind _ (by decide) (by decide)) ordD_mo ordD_br ha hb
/-- and, or, not as tests -/
def dAnd (t u : TDT) : TDT := fun r Q => t r fun c => if c = true then u r Q else Q false
def dOr (t u : TDT) : TDT := fun r Q => t r fun c => if c = true then Q true else u r Q
def dNot (t : TDT) : TDT := fun r Q => t r fun c => Q (!c)
variable {tA tB' : TDT} {rest : List Expr}
theorem pwd_and1 (ha : PTd X w a tA) : PWd X w (.BoolOp .And [a] pos) tA := ⟨pw_and1 ha.pt, ha.mo⟩
theorem pwd_or1 (ha : PTd X w a tA) : PWd X w (.BoolOp .Or [a] pos) tA := ⟨pw_or1 ha.pt, ha.mo⟩
theorem AftT.then {K : PySem.W.Frag} {g : Gd} {W : Addr → Bool} {H H1 : Hp} {Q : Bool → Hp → Prop} {d : Bool} (h : AftT K g W H Q d) (e : Ext g H H1) : AftT K g W H1 Q d := fun H' e' k => h H' (e.trans e') k
theorem ite_mo {c : Prop} [Decidable c] {A B A' B' : Prop} (h1 : A → A') (h2 : B → B') (h : if c then A else B) : if c then A' else B' := by
  by_cases q : c
  · rw [if_pos q] at h ⊢; exact h1 h
  · rw [if_neg q] at h ⊢; exact h2 h
theorem pwd_and (ha : PTd X w a tA) (hb : PWd X w (.BoolOp .And (b :: rest) pos) tB') : PWd X w (.BoolOp .And (a :: b :: rest) pos) (dAnd tA tB') := by
  refine ⟨weW (pw_and ha.pt hb.pw) ?_, fun r Q Q' q h => ha.mo _ _ _ (fun c z => ite_mo (hb.mo _ _ _ q) (q _) z) h⟩
  rintro σ H Q ⟨W, own, r, S, h⟩
  refine ⟨W, own, r, S, ha.mo _ _ _ (fun c z H1 e1 k1 => ite_mo (fun z => ?_) (fun z => z H1 e1 k1) z) h⟩
  exact ⟨W, own, r, S.ext e1 k1, hb.mo _ _ _ (fun d q => q.then e1) z⟩
theorem pwd_or (ha : PTd X w a tA) (hb : PWd X w (.BoolOp .Or (b :: rest) pos) tB') : PWd X w (.BoolOp .Or (a :: b :: rest) pos) (dOr tA tB') := by
  refine ⟨weW (pw_or ha.pt hb.pw) ?_, fun r Q Q' q h => ha.mo _ _ _ (fun c z => ite_mo (q _) (hb.mo _ _ _ q) z) h⟩
  rintro σ H Q ⟨W, own, r, S, h⟩
  refine ⟨W, own, r, S, ha.mo _ _ _ (fun c z H1 e1 k1 => ite_mo (fun z => z H1 e1 k1) (fun z => ?_) z) h⟩
  exact ⟨W, own, r, S.ext e1 k1, hb.mo _ _ _ (fun d q => q.then e1) z⟩
theorem ptd_not (ha : PTd X w a tA) : PTd X w (.UnaryOp .Not a pos) (dNot tA) := by
  refine ⟨weT (pt_not ha.pt) ?_, fun r Q Q' q h => ha.mo _ _ _ (fun c z => q _ z) h⟩
  rintro σ H Q ⟨W, own, r, S, h⟩
  exact ⟨W, own, r, S, ha.mo _ _ _ (fun c z H1 e1 k1 => z H1 e1 k1) h⟩
/-- .. as values -/
def dAndV (ta tb : TDE) : TDE := fun r Q => ta r fun d => ∃ c, d = .bl c ∧ if c = true then tb r Q else Q (.bl false)
def dNotV (ta : TDE) : TDE := fun r Q => ta r fun d => ∃ c, d = .bl c ∧ Q (.bl (!c))
theorem ped_one {op} {t : TDE} (h : PEd X w a t) : PEd X w (.BoolOp op [a] pos) t := ⟨pe_one h.pe, h.mo⟩
theorem ped_and (ha : PEd X w a ta) (hb : PEd X w (.BoolOp .And (b :: rest) pos) tb) : PEd X w (.BoolOp .And (a :: b :: rest) pos) (dAndV ta tb) := by
  refine ⟨weE (pe_and ha.pe hb.pe) ?_, fun r Q Q' q h => ha.mo _ _ _ (fun d ⟨c, e, z⟩ => ⟨c, e, ite_mo (hb.mo _ _ _ q) (q _) z⟩) h⟩
  rintro σ H Q ⟨W, own, r, S, h⟩
  refine go1 ha S h fun x v H1 e1 k1 d1 p => ?_
  obtain ⟨c, rfl, p⟩ := p
  cases d1
  exact ⟨c, rfl, ite_mo (fun z => ⟨W, own, r, S.ext e1 k1, hb.mo _ _ _ (fun d q => q.then e1) z⟩) (fun z => (z.then e1).now k1 (.bl _)) p⟩
theorem ped_not (ha : PEd X w a ta) : PEd X w (.UnaryOp .Not a pos) (dNotV ta) := by
  refine ⟨weE (pe_not ha.pe) ?_, fun r Q Q' q h => ha.mo _ _ _ (fun d ⟨c, e, z⟩ => ⟨c, e, q _ z⟩) h⟩
  rintro σ H Q ⟨W, own, r, S, h⟩
  refine go1 ha S h fun x v H1 e1 k1 d1 p => ?_
  obtain ⟨c, rfl, p⟩ := p
  cases d1
  exact ⟨c, rfl, (p.then e1).now k1 (.bl _)⟩
def dIfE (t : TDT) (ta tb : TDE) : TDE := fun r Q => t r fun c => if c = true then ta r Q else tb r Q
theorem ped_ifExp {c : Expr} (hc : PTd X w c tA) (ha : PEd X w a ta) (hb : PEd X w b tb) : PEd X w (.IfExp c a b pos) (dIfE tA ta tb) := by
  refine ⟨weE (pe_ifExp hc.pt ha.pe hb.pe) ?_, fun r Q Q' q h => hc.mo _ _ _ (fun d z => ite_mo (ha.mo _ _ _ q) (hb.mo _ _ _ q) z) h⟩
  rintro σ H Q ⟨W, own, r, S, h⟩
  refine ⟨W, own, r, S, hc.mo _ _ _ (fun c z H1 e1 k1 => ite_mo (fun z => ?_) (fun z => ?_) z) h⟩
  · exact ⟨W, own, r, S.ext e1 k1, ha.mo _ _ _ (fun d q => q.then e1) z⟩
  · exact ⟨W, own, r, S.ext e1 k1, hb.mo _ _ _ (fun d q => q.then e1) z⟩

/-! ### lists of expressions, displays -/
def dNil : TDA := fun _ Q => Q []
def dCons (t : TDE) (u : TDA) : TDA := fun r Q => t r fun d => u r fun ds => Q (d :: ds)
theorem pad_nil : PAd X w [] dNil := by
  refine ⟨weA pa_nil ?_, fun r Q Q' q h => q _ h⟩
  rintro σ H Q ⟨W, own, r, S, h⟩
  exact h [] H Ext.refl S.ok .nil
theorem pad_cons {t : TDE} {u : TDA} (h1 : PEd X w e t) (h2 : PAd X w es u) (he : starEach (e :: es) X.env = (false, eval e X.env) :: starEach es X.env := by rfl) : PAd X w (e :: es) (dCons t u) := by
  refine ⟨weA (pa_cons h1.pe h2.pa he) ?_, fun r Q Q' q h => h1.mo _ _ _ (fun d z => h2.mo _ _ _ (fun ds => q _) z) h⟩
  rintro σ H Q ⟨W, own, r, S, h⟩
  refine go1 h1 S h fun x v H1 e1 k1 d1 p => goA h2 (S.ext e1 k1) p fun xs vs H2 e2 k2 d2 q => ?_
  exact q (v :: vs) H2 (e1.trans e2) k2 (.cons (Dv.mono (e2.hid k1.gW) _ _ d1) d2)
def dTup (t : TDA) : TDE := fun r Q => t r fun ds => ds.length ≤ sizeLine ∧ Q (.tup ds)
def dLst (t : TDA) : TDE := fun r Q => t r fun ds => ds.length ≤ sizeLine ∧ Q (.lst ds)
theorem ped_tup {c} {t : TDA} (h : PAd X w es t) : PEd X w (.Tuple es c pos) (dTup t) := by
  refine ⟨weE (pe_tupS h.pa) ?_, fun r Q Q' q z => h.mo _ _ _ (fun d z => ⟨z.1, q _ z.2⟩) z⟩
  rintro σ H Q ⟨W, own, r, S, z⟩
  refine goA h S z fun xs vs H1 e1 k1 d1 p => ⟨by rw [d1.len]; exact p.1, (p.2.then e1).newT k1 d1⟩
theorem ped_lst {t : TDA} (h : PAd X w es t) : PEd X w (.List es pos) (dLst t) := by
  refine ⟨weE (pe_lst h.pa) ?_, fun r Q Q' q z => h.mo _ _ _ (fun d z => ⟨z.1, q _ z.2⟩) z⟩
  rintro σ H Q ⟨W, own, r, S, z⟩
  refine goA h S z fun xs vs H1 e1 k1 d1 p => ⟨by rw [d1.len]; exact p.1, fun q np => (p.2.then e1).newL k1 np d1⟩

/-! ### calls of defs -/
abbrev DSp := List Da → (Da → Prop) → Prop
def MoP (p : DSp) : Prop := ∀ ds Q Q', (∀ d, Q d → Q' d) → p ds Q → p ds Q'
def liP (K : PySem.W.Frag) (p : DSp) : Sp := fun vs H Q _ => ∃ g W ds, OkW K g W H ∧ DvAll K g (hid W H) vs ds ∧ p ds (Aft K g W H Q)
def dCall (p : DSp) (t : TDA) : TDE := fun r Q => t r fun ds => p ds Q
theorem ped_call {x : Str} {p pos : Pos} {k : Nat} {f : Addr} {fd : FuncData} {ps : List Str} {sp : DSp} {t : TDA} {e : Expr} {es : List Expr} (F : FnG X.prog X.w X.K X.mg X.base CX0 k f fd ps (liP X.K sp)) (m : MoP sp) (room : Room k X.A) (hG : X.A.guards = some [])
    (at_x : X.mg x = some (.ref f)) (kp : PySem.W.keepIn X.K (.ref f) = true) (bd : Binds X.K fd ps []) (args : PAd X w (e :: es) t) (gl : Gl X x := by rfl) (nd : (x == ("__debug__" : Str)) = false := by decide)
    (st : starEach (e :: es) X.env = (false, eval e X.env) :: starEach es X.env := by rfl) (bk : (backTo pos (starEach es X.env)).any (·.1) = false := by rfl) :
    PEd X w (.Call (.Name x p) (e :: es) [] pos) (dCall sp t) := by
  refine ⟨weE (pe_callG (E := E0) F room hG gl at_x kp bd .nil pass0 args.pa nd st bk) ?_, fun r Q Q' q h => args.mo _ _ _ (fun ds z => m _ _ _ q z) h⟩
  rintro σ H Q ⟨W, own, r, S, h⟩
  refine goA args S h fun xs vs H1 e1 k1 d1 p => ?_
  rw [List.append_nil]
  exact ⟨w.g, W, xs, k1, d1, m _ _ _ (fun d q => q.then e1) p⟩

/-! ### calls of built-ins -/
abbrev DB := List Da → (Da → Prop) → Prop
def BrB (K : PySem.W.Frag) (R : List V → Hp → VK → Prop) (D : DB) : Prop := ∀ (g : Gd) (W : Addr → Bool) (H : Hp) (vs : List V) (ds : List Da) (Q : VK), OkW K g W H → DvAll K g (hid W H) vs ds → D ds (Aft K g W H Q) → R vs H Q
theorem ped_callB {x : Str} {p pos : Pos} {id : String} {R : List V → Hp → VK → Prop} {D : DB} {t : TDA} {e : Expr} {es : List Expr} (hc : CallR X (.builtin id) R) (m : MoP D) (br : BrB X.K R D) (hm : X.mg x = none) (hv : bootBuiltins x = some (.builtin id)) (args : PAd X w (e :: es) t)
    (hg : Gl X x := by rfl) (hn : x ≠ "__name__" := by decide) (hdb : (x == ("__debug__" : Str)) = false := by decide) (he : starEach (e :: es) X.env = (false, eval e X.env) :: starEach es X.env := by rfl) (hpl : (backTo pos (starEach es X.env)).any (·.1) = false := by rfl) :
    PEd X w (.Call (.Name x p) (e :: es) [] pos) (dCall D t) := by
  refine ⟨weE (pe_callB hc hg hm hv args.pa hn hdb he hpl) ?_, fun r Q Q' q h => args.mo _ _ _ (fun ds z => m _ _ _ q z) h⟩
  rintro σ H Q ⟨W, own, r, S, h⟩
  exact goA args S h fun xs vs H1 e1 k1 d1 p => br _ _ _ _ _ _ k1 d1 (m _ _ _ (fun d q => q.then e1) p)
theorem ped_callTy {x : Str} {p pos : Pos} {T : String} {R : List V → Hp → VK → Prop} {D : DB} {t : TDA} {e : Expr} {es : List Expr} (hc : CallR X (.type T) R) (m : MoP D) (br : BrB X.K R D) (hm : X.mg x = none) (hv : bootBuiltins x = some (.type T)) (args : PAd X w (e :: es) t)
    (hg : Gl X x := by rfl) (hn : x ≠ "__name__" := by decide) (hdb : (x == ("__debug__" : Str)) = false := by decide) (he : starEach (e :: es) X.env = (false, eval e X.env) :: starEach es X.env := by rfl) (hpl : (backTo pos (starEach es X.env)).any (·.1) = false := by rfl) :
    PEd X w (.Call (.Name x p) (e :: es) [] pos) (dCall D t) := by
  refine ⟨weE (pe_callTy hc hg hm hv args.pa hn hdb he hpl) ?_, fun r Q Q' q h => args.mo _ _ _ (fun ds z => m _ _ _ q z) h⟩
  rintro σ H Q ⟨W, own, r, S, h⟩
  exact goA args S h fun xs vs H1 e1 k1 d1 p => br _ _ _ _ _ _ k1 d1 (m _ _ _ (fun d q => q.then e1) p)
end
end Pd
/-! Statements, loops, comprehensions on data. -/
namespace Pd
open PySem PySem.Spec PyProof.Rows L2

/-! ### statements -/
/-- from one state to a later one -/
def Grow (g : Gd) (W : Addr → Bool) (H : Hp) (W' : Addr → Bool) (H' : Hp) : Prop :=
  (∀ b o, ¬ Bd g b → W b = false → H b = some o → H' b = some o) ∧ (∀ a, H a ≠ none → H' a ≠ none) ∧ ∀ a, W' a = true → W a = true ∨ H a = none
theorem Grow.refl {g : Gd} {W : Addr → Bool} {H : Hp} : Grow g W H W H := ⟨fun _ _ _ _ h => h, fun _ h => h, fun _ h => .inl h⟩
theorem Grow.trans {g : Gd} {W W1 W2 : Addr → Bool} {H H1 H2 : Hp} (a : Grow g W H W1 H1) (b : Grow g W1 H1 W2 H2) : Grow g W H W2 H2 := by
  refine ⟨fun c o n wf h => b.1 c o n ?_ (a.1 c o n wf h), fun c h => b.2.1 c (a.2.1 c h), fun c h => ?_⟩
  · cases q : W1 c with
    | false => rfl
    | true =>
      rcases a.2.2 c q with z | z
      · rw [wf] at z; cases z
      · rw [h] at z; cases z
  · rcases b.2.2 c h with z | z
    · exact a.2.2 c z
    · refine .inr (Classical.byContradiction fun n => a.2.1 c n z)
theorem Grow.of {K : PySem.W.Frag} {g : Gd} {W : Addr → Bool} {H H' : Hp} (k : OkW K g W H') (e : Ext g H H') : Grow g W H W H' :=
  ⟨fun b o n _ h => e b o n h, (fun a h => by
    by_cases z : Bd g a
    · obtain ⟨o, q⟩ := k.al a (k.gW a z)
      rw [q]; intro n; cases n
    · cases q : H a with
      | none => exact absurd q h
      | some o => rw [e a o z q]; intro n; cases n), fun a h => .inl h⟩
theorem Grow.data {g : Gd} {W W' : Addr → Bool} {H H' : Hp} (gr : Grow g W H W' H') (gW : ∀ a, Bd g a → W a = true) : Sm (hid W H) (hid W' H') := fun a o q => by
  obtain ⟨q1, q2⟩ := hid_some q
  rw [hid_no]
  · exact gr.1 a o (fun z => by rw [gW a z] at q1; cases q1) q1 q2
  · cases z : W' a with
    | false => rfl
    | true =>
      rcases gr.2.2 a z with y | y
      · rw [q1] at y; cases y
      · rw [q2] at y; cases y

def endD (K : PySem.W.Frag) (w : Wd) (W : Addr → Bool) (H : Hp) (E : Ends) : EnD where
  nx := fun r' => ∀ W' own' σ' H', Grow w.g W H W' H' → Stt K w W' own' r' σ' H' → E.nx σ' H'
  rt := fun d => ∀ v H', Ext w.g w.H0 H' → OkW K w.g w.W0 H' → Dv K w.g (hid w.W0 H') v d → E.rt v H'
  bk := fun r' => ∀ W' own' σ' H', Grow w.g W H W' H' → Stt K w W' own' r' σ' H' → E.bk σ' H'
  ct := fun r' => ∀ W' own' σ' H', Grow w.g W H W' H' → Stt K w W' own' r' σ' H' → E.ct σ' H'
def liS (K : PySem.W.Frag) (w : Wd) (t : TDS) : TS := fun E σ H => ∃ W own r, Stt K w W own r σ H ∧ t (endD K w W H E) r
/-- every end that the one wants the other gives -/
structure Le (E E' : EnD) : Prop where
  nx : ∀ r, E.nx r → E'.nx r
  rt : ∀ d, E.rt d → E'.rt d
  bk : ∀ r, E.bk r → E'.bk r
  ct : ∀ r, E.ct r → E'.ct r
theorem Le.refl {E : EnD} : Le E E := ⟨fun _ h => h, fun _ h => h, fun _ h => h, fun _ h => h⟩
def MoS (t : TDS) : Prop := ∀ E E' r, Le E E' → t E r → t E' r
structure PSd (X : Cx) (w : Wd) (st : Stmt) (t : TDS) : Prop where
  ps : PS X st (liS X.K w t)
  mo : MoS t
structure PSsd (X : Cx) (w : Wd) (st : List Stmt) (t : TDS) : Prop where
  ps : PSs X st (liS X.K w t)
  mo : MoS t
theorem endD_grow {K : PySem.W.Frag} {w : Wd} {W W1 : Addr → Bool} {H H1 : Hp} {E : Ends} (g : Grow w.g W H W1 H1) : Le (endD K w W H E) (endD K w W1 H1 E) :=
  ⟨fun _ h W' o' σ' H' g' S => h W' o' σ' H' (g.trans g') S, fun _ h => h, fun _ h W' o' σ' H' g' S => h W' o' σ' H' (g.trans g') S, fun _ h W' o' σ' H' g' S => h W' o' σ' H' (g.trans g') S⟩

section
variable {X : Cx} {w : Wd} {e a b : Expr} {st : Stmt} {sts rest : List Stmt} {pos : Pos} {t u : TDS} {te : TDE} {tt : TDT}
theorem weS {t t' : TS} (h : PS X st t) (le : ∀ D σ H, t' D σ H → t D σ H) : PS X st t' := ⟨fun pins s σ H D I q => h.run pins s σ H D I (le _ _ _ q)⟩
theorem weSs {t t' : TS} (h : PSs X sts t) (le : ∀ D σ H, t' D σ H → t D σ H) : PSs X sts t' := ⟨fun pins s σ H D I q => h.run pins s σ H D I (le _ _ _ q)⟩
def dSeq (t u : TDS) : TDS := fun E r => t { E with nx := u E } r
theorem psd_cons (h1 : PSd X w st t) (h2 : PSsd X w rest u) : PSsd X w (st :: rest) (dSeq t u) := by
  refine ⟨weSs (pss_cons h1.ps h2.ps) ?_, fun E E' r l h => h1.mo { E with nx := u E } { E' with nx := u E' } r ⟨fun r' => h2.mo E E' r' l, l.rt, l.bk, l.ct⟩ h⟩
  rintro D σ H ⟨W, own, r, S, h⟩
  refine ⟨W, own, r, S, h1.mo { endD X.K w W H D with nx := u (endD X.K w W H D) } (endD X.K w W H { D with nx := liS X.K w u D }) r ⟨fun r' z W' o' σ' H' g' S' => ?_, fun _ z => z, fun _ z => z, fun _ z => z⟩ h⟩
  exact ⟨W', o', r', S', h2.mo _ _ _ (endD_grow g') z⟩
theorem psd_one (h1 : PSd X w st t) : PSsd X w [st] t := ⟨pss_one h1.ps, h1.mo⟩
def dNext : TDS := fun E r => E.nx r
theorem psd_nil : PSsd X w [] dNext := by
  refine ⟨weSs pss_nil ?_, fun E E' r l h => l.nx r h⟩
  rintro D σ H ⟨W, own, r, S, h⟩
  exact h W own σ H .refl S
def dRet (t : TDE) : TDS := fun E r => t r E.rt
theorem ret_ok {K : PySem.W.Frag} {W : Addr → Bool} {own : Ow} {r : En} {σ : L2.St} {H : Hp} {E : Ends} {d : Da} {v : V} (S : Stt K w W own r σ H) (h : (endD K w W H E).rt d) (H1 : Hp) (e1 : Ext w.g H H1) (k1 : OkW K w.g W H1) (d1 : Dv K w.g (hid W H1) v d) : E.rt v H1 := by
  have z := h v H1 (S.base.trans e1)
  refine z (k1.less S.w0 S.g0) (Dv.mono (hid_le S.w0) _ _ d1)
theorem psd_ret (he : PEd X w e te) : PSd X w (.Return (some e) pos) (dRet te) := by
  refine ⟨weS (ps_ret he.pe) ?_, fun E E' r l h => he.mo _ _ _ l.rt h⟩
  rintro D σ H ⟨W, own, r, S, h⟩
  exact go1 he S h fun x v H1 e1 k1 d1 p => ret_ok S p H1 e1 k1 d1
def dIf (c : TDT) (t u : TDS) : TDS := fun E r => c r fun b => if b = true then t E r else u E r
theorem psd_if {c : Expr} {p q : List Stmt} (hc : PTd X w c tt) (ha : PSsd X w p t) (hb : PSsd X w q u) : PSd X w (.If c p q pos) (dIf tt t u) := by
  refine ⟨weS (ps_if hc.pt ha.ps hb.ps) ?_, fun E E' r l h => hc.mo _ _ _ (fun b => ite_mo (ha.mo E E' r l) (hb.mo E E' r l)) h⟩
  rintro D σ H ⟨W, own, r, S, h⟩
  refine ⟨W, own, r, S, hc.mo _ _ _ (fun b z H1 e1 k1 => ?_) h⟩
  have l : Le (endD X.K w W H D) (endD X.K w W H1 D) := endD_grow (.of k1 e1)
  exact ite_mo (fun z => ⟨W, own, r, S.ext e1 k1, ha.mo _ _ _ l z⟩) (fun z => ⟨W, own, r, S.ext e1 k1, hb.mo _ _ _ l z⟩) z

/-! ### targets -/
abbrev TDG := Da → En → (En → Prop) → Prop
theorem wipe_set {σ : L2.St} {i : Nat} {x : Option V} : ∀ {vs : List Nat}, i ∈ vs → L2.wipe (σ.set i x) vs = L2.wipe σ vs := by
  intro vs
  induction vs with
  | nil => intro h; cases h
  | cons v vs ih =>
    intro h
    show (L2.wipe (σ.set i x) vs).set v none = (L2.wipe σ vs).set v none
    by_cases q : i ∈ vs
    · rw [ih q]
    · have e : i = v := by rcases List.mem_cons.mp h with z | z; exact z; exact absurd z q
      subst e
      have aux : ∀ (us : List Nat) (σ : L2.St), i ∉ us → L2.wipe (σ.set i x) us = (L2.wipe σ us).set i x := by
        intro us
        induction us with
        | nil => intro σ _; rfl
        | cons z zs ih2 =>
          intro σ hz
          show (L2.wipe (σ.set i x) zs).set z none = ((L2.wipe σ zs).set z none).set i x
          rw [ih2 σ (fun y => hz (List.mem_cons_of_mem _ y)), List.set_comm]
          exact fun y => hz (by rw [y]; exact List.mem_cons_self)
      rw [aux vs σ q, List.set_set]
theorem wipe_idem (σ : L2.St) (vs : List Nat) : L2.wipe (L2.wipe σ vs) vs = L2.wipe σ vs := by
  have aux : ∀ (us vs : List Nat) (σ : L2.St), (∀ i ∈ us, i ∈ vs) → L2.wipe (L2.wipe σ us) vs = L2.wipe σ vs := by
    intro us
    induction us with
    | nil => intro vs σ _; rfl
    | cons u us ih =>
      intro vs σ h
      show L2.wipe ((L2.wipe σ us).set u none) vs = _
      rw [wipe_set (h u List.mem_cons_self)]
      exact ih vs σ fun i hi => h i (List.mem_cons_of_mem _ hi)
  exact aux vs vs σ fun _ h => h
/-- what a target does with a datum; vs: the slots it may set -/
structure GDt (K : PySem.W.Frag) (g : TG) (gd : TDG) (vs : List Nat) : Prop where
  run : ∀ (w : Wd) (W : Addr → Bool) (own : Ow) (r : En) (σ : L2.St) (H : Hp) (v : V) (d : Da) (Q : En → Prop), Stt K w W own r σ H → Dv K w.g (hid W H) v d → gd d r Q →
    g v σ H fun σ' H' => H' = H ∧ (∀ us, (∀ i ∈ vs, i ∈ us) → L2.wipe σ' us = L2.wipe σ us) ∧ ∃ own' r', Stt K w W own' r' σ' H ∧ Q r'
  mo : ∀ d r Q Q', (∀ r, Q r → Q' r) → gd d r Q → gd d r Q'
def dgName (i : Nat) : TDG := fun d r Q => Q (r.set i (.dat d))
theorem gd_name {K : PySem.W.Frag} (i : Nat) : GDt K (gName i) (dgName i) [i] := by
  refine ⟨fun w W own r σ H v d Q S dv h => ?_, fun d r Q Q' q h => q _ h⟩
  obtain ⟨own', S'⟩ := S.set (i := i) dv
  exact ⟨rfl, fun us hu => wipe_set (hu i List.mem_cons_self), own', _, S', h⟩
/-- a, b = a pair -/
def itemsOf : Da → Option (List Da)
  | .tup xs => some xs
  | .tpw xs => some xs
  | _ => none
def dgTup2 (i j : Nat) : TDG := fun d r Q => ∃ x y, itemsOf d = some [x, y] ∧ Q ((r.set i (.dat x)).set j (.dat y))
theorem items_sq {K : PySem.W.Frag} {g : Gd} {W : Addr → Bool} {H : Hp} {v : V} {d : Da} {ds : List Da} (h : Dv K g (hid W H) v d) (e : itemsOf d = some ds) : ∃ a xs, v = .ref a ∧ SqT K H a xs ∧ DvAll K g (hid W H) xs ds := by
  unfold itemsOf at e
  split at e
  · cases e
    cases h with
    | tup h1 h2 => exact ⟨_, _, rfl, sq_hid h1.sq, h2⟩
  · cases e
    cases h with
    | tpw h1 h2 => exact ⟨_, _, rfl, sq_hid h1, h2⟩
  · cases e
theorem gd_tup2 {K : PySem.W.Frag} (i j : Nat) : GDt K (gTup K 2 (gCons (gName i) (gCons (gName j) gNil))) (dgTup2 i j) [i, j] := by
  refine ⟨fun w W own r σ H v d Q S dv h => ?_, fun d r Q Q' q ⟨x, y, e, z⟩ => ⟨x, y, e, q _ z⟩⟩
  obtain ⟨x, y, e, h⟩ := h
  obtain ⟨c, xs, rfl, hq, hd⟩ := items_sq dv e
  cases hd with
  | cons d1 t1 =>
    cases t1 with
    | cons d2 t2 =>
      cases t2
      obtain ⟨o1, S1⟩ := S.set (i := i) d1
      obtain ⟨o2, S2⟩ := S1.set (i := j) d2
      refine ⟨c, _, rfl, hq, rfl, _, _, rfl, _, _, rfl, rfl, rfl, fun us hu => ?_, o2, _, S2, h⟩
      rw [wipe_set (hu j (by simp)), wipe_set (hu i (by simp))]
/-- name = e -/
def dSet (te : TDE) (i : Nat) : TDS := fun E r => te r fun d => E.nx (r.set i (.dat d))
theorem psd_set {i : Nat} {x : Str} {pos' : Pos} (he : PEd X w e te) (hN : X.N.Nodup) (hi : X.N[i]? = some x := by rfl) (hx : Loc X.env.scope x := by first | exact .inl rfl | exact .inr rfl) (hs : swapsWith e (some (.Name x pos')) pos.line X.env = pure false := by rfl)
    (hf : X.fn x = true ∨ X.env.scope.names.lookup x = some .local := by first | exact .inl rfl | exact .inr rfl) : PSd X w (.Assign [.Name x pos'] e pos) (dSet te i) := by
  refine ⟨weS (ps_set hN hi hx he.pe hs hf) ?_, fun E E' r l h => he.mo _ _ _ (fun d => l.nx _) h⟩
  rintro D σ H ⟨W, own, r, S, h⟩
  refine go1 he S h fun y v H1 e1 k1 d1 p => ?_
  obtain ⟨own', S'⟩ := (S.ext e1 k1).set (i := i) d1
  exact p W own' _ H1 (.of k1 e1) S'
/-- target = e -/
def dAsg (te : TDE) (gd : TDG) : TDS := fun E r => te r fun d => gd d r E.nx
theorem psd_asg {tg : Expr} {g : TG} {gd : TDG} {vs : List Nat} (he : PEd X w e te) (hg : PG X tg g) (G : GDt X.K g gd vs) (gmo : ∀ v σ H Q Q', (∀ a b, Q a b → Q' a b) → g v σ H Q → g v σ H Q') (hs : swapsWithSole [tg] e pos.line X.env = pure false := by rfl) (hw : swappedStores [tg] e X.env = pure none := by rfl)
    (h1 : (assignEach [tg] X.env).map (·.2) = [assign tg X.env] := by rfl) : PSd X w (.Assign [tg] e pos) (dAsg te gd) := by
  refine ⟨weS (ps_asg he.pe hg hs hw h1) ?_, fun E E' r l h => he.mo _ _ _ (fun d => G.mo _ _ _ _ l.nx) h⟩
  rintro D σ H ⟨W, own, r, S, h⟩
  refine go1 he S h fun y v H1 e1 k1 d1 p => ?_
  refine gmo _ _ _ _ _ ?_ (G.run w W own r σ H1 v y _ (S.ext e1 k1) d1 p)
  rintro σ' H' ⟨rfl, _, own', r', S', q⟩
  exact q W own' σ' _ (.of k1 e1) S'
theorem gTup_mo {K : PySem.W.Frag} {n : Nat} {t : TGs} (m : ∀ vs σ H Q Q', (∀ a b, Q a b → Q' a b) → t vs σ H Q → t vs σ H Q') : ∀ v σ H Q Q', (∀ a b, Q a b → Q' a b) → gTup K n t v σ H Q → gTup K n t v σ H Q' :=
  fun v σ H Q Q' q ⟨a, xs, h1, h2, h3, h4⟩ => ⟨a, xs, h1, h2, h3, m _ _ _ _ _ q h4⟩
theorem gCons_mo {t : TG} {u : TGs} (m1 : ∀ v σ H Q Q', (∀ a b, Q a b → Q' a b) → t v σ H Q → t v σ H Q') (m2 : ∀ vs σ H Q Q', (∀ a b, Q a b → Q' a b) → u vs σ H Q → u vs σ H Q') :
    ∀ vs σ H Q Q', (∀ a b, Q a b → Q' a b) → gCons t u vs σ H Q → gCons t u vs σ H Q' := fun vs σ H Q Q' q ⟨v, rr, h1, h2⟩ => ⟨v, rr, h1, m1 _ _ _ _ _ (fun _ _ => m2 _ _ _ _ _ q) h2⟩
theorem gNil_mo : ∀ vs σ H Q Q', (∀ a b, Q a b → Q' a b) → gNil vs σ H Q → gNil vs σ H Q' := fun vs σ H Q Q' q ⟨h1, h2⟩ => ⟨h1, q _ _ h2⟩
theorem gName_mo (i : Nat) : ∀ v σ H Q Q', (∀ a b, Q a b → Q' a b) → gName i v σ H Q → gName i v σ H Q' := fun v σ H Q Q' q h => q _ _ h
/-- a, b = x, y (both sides written) -/
def dPar (i j : Nat) (ta tb : TDE) : TDS := fun E r => ta r fun x => tb r fun y => E.nx ((r.set i (.dat x)).set j (.dat y))
theorem psd_par {i j : Nat} {x y : Str} {px py pt : Pos} {kt k2 pt2} {ta tb : TDE} (ha : PEd X w a ta) (hb : PEd X w b tb) (hN : X.N.Nodup) (hc : X.calm = true := by rfl) (hi : X.N[i]? = some x := by rfl) (hj : X.N[j]? = some y := by rfl) (hij : i ≠ j := by decide)
    (hx : X.env.scope.names.lookup x = some .local := by rfl) (hy : X.env.scope.names.lookup y = some .local := by rfl) (hs1 : starEach (a :: [b]) X.env = (false, eval a X.env) :: starEach [b] X.env := by rfl) (hs2 : starEach (b :: []) X.env = (false, eval b X.env) :: starEach [] X.env := by rfl)
    (hw : swappedStores [.Tuple [.Name x px, .Name y py] kt pt] (.Tuple [a, b] k2 pt2) X.env = pure (some [x, y]) := by rfl)
    (hs : swapsWithSole [.Tuple [.Name x px, .Name y py] kt pt] (.Tuple [a, b] k2 pt2) pos.line X.env = pure false := by rfl) :
    PSd X w (.Assign [.Tuple [.Name x px, .Name y py] kt pt] (.Tuple [a, b] k2 pt2) pos) (dPar i j ta tb) := by
  refine ⟨weS (ps_par hc hN hi hj hij hx hy (pa_cons ha.pe (pa_cons hb.pe pa_nil hs2) hs1) hw hs) ?_, fun E E' r l h => ha.mo _ _ _ (fun d => hb.mo _ _ _ (fun d => l.nx _)) h⟩
  rintro D σ H ⟨W, own, r, S, h⟩
  refine go1 ha S h fun d v H1 e1 k1 d1 p => go1 hb (S.ext e1 k1) p fun d' v' H2 e2 k2 d2 q => ?_
  obtain ⟨o1, S1⟩ := ((S.ext e1 k1).ext e2 k2).set (i := i) (Dv.mono (e2.hid k1.gW) _ _ d1)
  obtain ⟨o2, S2⟩ := S1.set (i := j) d2
  exact ⟨v, v', rfl, q W o2 _ H2 (.of k2 (e1.trans e2)) S2⟩
/-- name op= e -/
def dAug (i : Nat) (te : TDE) (D : DD) : TDS := fun E r => ∃ x, r[i]? = some (.dat x) ∧ te r fun y => D x y fun z => E.nx (r.set i (.dat z))
theorem psd_aug {i : Nat} {x : Str} {op : Operator} {pos' : Pos} {ti : TIp} {D : DD} (he : PEd X w e te) (ho : PIp X op ti) (m : Mo2 D) (br : Br2 X.K ti D) (hN : X.N.Nodup) (hi : X.N[i]? = some x := by rfl) (hx : Loc X.env.scope x := by first | exact .inl rfl | exact .inr rfl)
    (hf : X.fn x = true ∨ X.env.scope.names.lookup x = some .local := by first | exact .inl rfl | exact .inr rfl) : PSd X w (.AugAssign (.Name x pos') op e pos) (dAug i te D) := by
  refine ⟨weS (ps_aug hN hi hx he.pe ho hf) ?_, fun E E' r l ⟨d, h1, h⟩ => ⟨d, h1, he.mo _ _ _ (fun y => m _ _ _ _ (fun z => l.nx _)) h⟩⟩
  rintro E σ H ⟨W, own, r, S, d, h1, h⟩
  obtain ⟨v, ev, dv⟩ := S.dat h1
  refine ⟨v, ev, go1 he S h fun y u H1 e1 k1 d1 p => br _ _ _ _ _ _ _ _ k1 (Dv.mono (e1.hid S.ok.gW) _ _ dv) d1 (m _ _ _ _ ?_ p)⟩
  intro z q v' H' e' k' d'
  obtain ⟨own', S'⟩ := ((S.ext e1 k1).ext e' k').set (i := i) d'
  exact q W own' _ H' (.of k' (e1.trans e')) S'
def addN : DD := intD (fun _ _ => True) fun i j => i + j
theorem ipI_br {f : Int → Int → Int} : Br2 X.K (ipI f) (intD (fun _ _ => True) f) := by
  intro g W H v u x y Q k dx dy h
  unfold intD at h
  split at h
  · cases dx; cases dy
    exact ⟨_, _, rfl, rfl, h.2.now k (.int _)⟩
  · exact h.elim
theorem psd_augAdd {i : Nat} {x : Str} {pos' : Pos} (he : PEd X w e te) (hN : X.N.Nodup) (hi : X.N[i]? = some x := by rfl) (hx : Loc X.env.scope x := by first | exact .inl rfl | exact .inr rfl)
    (hf : X.fn x = true ∨ X.env.scope.names.lookup x = some .local := by first | exact .inl rfl | exact .inr rfl) : PSd X w (.AugAssign (.Name x pos') .Add e pos) (dAug i te addN) := psd_aug he ip_add intD_mo ipI_br hN hi hx hf
end
end Pd
/-! What is walked; for; comprehensions; a def by its data promise. -/
namespace Pd
open PySem PySem.Spec PyProof.Rows L2

/-! ### what is walked -/
abbrev TDI := En → (List Da → Prop) → Prop
/-- J goes over the data ds (from the heap H1 on, W hidden there) -/
def Wlk (K : PySem.W.Frag) (g : Gd) (W : Addr → Bool) (H1 : Hp) (J : It) (ds : List Da) : Prop :=
  ∀ i H', Sm (hid W H1) H' → (i < ds.length → J.go i H') ∧ (ds.length ≤ i → J.stop i H') ∧
    ∀ x H'', i < ds.length → J.yld i H' x H'' → Sm H' H'' ∧ ∃ d, ds[i]? = some d ∧ ∀ Z : Hp, Sm (hid W H1) Z → (∀ b o, H' b = none → H'' b = some o → Z b = some o) → Dv K g Z x d
def liI (K : PySem.W.Frag) (w : Wd) (t : TDI) : TI := fun σ H R => ∃ W own r, Stt K w W own r σ H ∧ t r fun ds => ∀ J H1, Ext w.g H H1 → OkW K w.g W H1 → Wlk K w.g W H1 J ds → R J H1
structure PId (X : Cx) (w : Wd) (tg e : Expr) (t : TDI) : Prop where
  pi : PI X tg e (liI X.K w t)
  mo : ∀ r Q Q', (∀ ds, Q ds → Q' ds) → t r Q → t r Q'
section
variable {X : Cx} {w : Wd} {e tg : Expr} {pos : Pos} {te : TDE}
theorem weI {t t' : TI} (h : PI X tg e t) (le : ∀ σ H R, t' σ H R → t σ H R) : PI X tg e t' := ⟨fun pins s σ H R I q => h.run pins s σ H R I (le _ _ _ q)⟩
theorem wlk_list {K : PySem.W.Frag} {g : Gd} {W : Addr → Bool} {H : Hp} {a : Addr} {xs : List V} {ds : List Da} (h : hid W H a = some (.lst xs)) (dv : DvAll K g (hid W H) xs ds) : Wlk K g W H (Itl K a) ds := by
  intro i H' s
  have q : SqL K H' a xs := SqL.of (s _ _ h)
  refine ⟨fun hi => ?_, fun hi => ⟨xs, q, by rw [dv.len]; exact hi⟩, fun x H'' _ y => ?_⟩
  · have hx : i < xs.length := by rw [dv.len]; exact hi
    exact ⟨xs, xs[i], q, List.getElem?_eq_getElem hx⟩
  · obtain ⟨e, y⟩ := y
    subst e
    refine ⟨fun _ _ h => h, ?_⟩
    obtain ⟨d, h1, h2⟩ := dv.ta (y xs q)
    exact ⟨d, h1, fun Z z _ => Dv.mono z _ _ h2⟩
theorem wlk_tup {K : PySem.W.Frag} {g : Gd} {W : Addr → Bool} {H : Hp} {a : Addr} {xs : List V} {ds : List Da} (h : SqT K (hid W H) a xs) (dv : DvAll K g (hid W H) xs ds) : Wlk K g W H (Itt K a) ds := by
  intro i H' s
  have q : SqT K H' a xs := sqt_mono s h
  refine ⟨fun hi => ?_, fun hi => ⟨xs, q, by rw [dv.len]; exact hi⟩, fun x H'' _ y => ?_⟩
  · have hx : i < xs.length := by rw [dv.len]; exact hi
    exact ⟨xs, xs[i], q, List.getElem?_eq_getElem hx⟩
  · obtain ⟨e, y⟩ := y
    subst e
    refine ⟨fun _ _ h => h, ?_⟩
    obtain ⟨d, h1, h2⟩ := dv.ta (y xs q)
    exact ⟨d, h1, fun Z z _ => Dv.mono z _ _ h2⟩
/-- for x in a list -/
def dItL (t : TDE) : TDI := fun r Q => t r fun d => ∃ ds, d = .lst ds ∧ Q ds
theorem pid_list (h : PEd X w e te) : PId X w tg e (dItL te) := by
  refine ⟨weI (pi_list h.pe) ?_, fun r Q Q' q z => h.mo _ _ _ (fun d ⟨ds, e, z⟩ => ⟨ds, e, q _ z⟩) z⟩
  rintro σ H R ⟨W, own, r, S, z⟩
  refine go1 h S z fun d v H1 e1 k1 d1 p => ?_
  obtain ⟨ds, rfl, p⟩ := p
  cases d1 with
  | lst a1 a2 => exact ⟨_, rfl, ⟨_, SqL.of (hid_some a1).2⟩, p _ H1 e1 k1 (wlk_list a1 a2)⟩
/-- for x in a tuple -/
def dItT (t : TDE) : TDI := fun r Q => t r fun d => ∃ ds, itemsOf d = some ds ∧ Q ds
theorem pid_tup (h : PEd X w e te) : PId X w tg e (dItT te) := by
  refine ⟨weI (pi_tup h.pe) ?_, fun r Q Q' q z => h.mo _ _ _ (fun d ⟨ds, e, z⟩ => ⟨ds, e, q _ z⟩) z⟩
  rintro σ H R ⟨W, own, r, S, z⟩
  refine go1 h S z fun d v H1 e1 k1 d1 p => ?_
  obtain ⟨ds, ed, p⟩ := p
  have hid' : ∀ {ds}, itemsOf d = some ds → ∃ a xs, v = .ref a ∧ SqT X.K (hid W H1) a xs ∧ DvAll X.K w.g (hid W H1) xs ds := by
    intro ds ed
    unfold itemsOf at ed
    split at ed
    · cases ed
      cases d1 with
      | tup h1 h2 => exact ⟨_, _, rfl, h1.sq, h2⟩
    · cases ed
      cases d1 with
      | tpw h1 h2 => exact ⟨_, _, rfl, h1, h2⟩
    · cases ed
  obtain ⟨a, xs, rfl, h1, h2⟩ := hid' ed
  exact ⟨a, rfl, ⟨xs, sq_hid h1⟩, p _ H1 e1 k1 (wlk_tup h1 h2)⟩
/-- for x in range(n) -/
def rngD (n : Nat) : List Da := (List.range n).map fun i => .int (i : Nat)
theorem rngD_at {n i : Nat} (h : i < n) : (rngD n)[i]? = some (.int (i : Nat)) := by
  unfold rngD
  rw [List.getElem?_map, List.getElem?_range h]
  rfl
theorem rngD_len (n : Nat) : (rngD n).length = n := by unfold rngD; rw [List.length_map, List.length_range]
theorem wlk_rng {K : PySem.W.Frag} {g : Gd} {W : Addr → Bool} {H : Hp} {n : Nat} : Wlk K g W H (Itr 0 n) (rngD n) := by
  intro i H' s
  rw [rngD_len]
  refine ⟨fun h => h, fun h => h, fun x H'' hi y => ?_⟩
  obtain ⟨e, y⟩ := y
  subst e y
  refine ⟨fun _ _ h => h, _, rngD_at hi, fun Z _ _ => ?_⟩
  rw [Int.zero_add]
  exact .int _
def dItR (t : TDE) : TDI := fun r Q => t r fun d => ∃ n : Int, d = .int n ∧ -(2 ^ 62) ≤ n ∧ n < 2 ^ 62 ∧ Q (rngD n.toNat)
theorem pid_range {p : Pos} (hm : X.mg "range" = none) (h : PEd X w e te) (hg : Gl X "range" := by rfl) (h1 : starEach (e :: []) X.env = (false, eval e X.env) :: starEach [] X.env := by rfl) (hs : starEach [e] X.env = [(false, eval e X.env)] := by rfl) : PId X w tg (.Call (.Name "range" p) [e] [] pos) (dItR te) := by
  refine ⟨weI (pi_range1 hg hm (pa_cons h.pe pa_nil h1) hs) ?_, fun r Q Q' q z => h.mo _ _ _ (fun d ⟨n, e, a, b, z⟩ => ⟨n, e, a, b, q _ z⟩) z⟩
  rintro σ H R ⟨W, own, r, S, z⟩
  refine go1 h S z fun d v H1 e1 k1 d1 p => ?_
  obtain ⟨n, rfl, a, b, p⟩ := p
  cases d1
  exact ⟨n, rfl, a, b, p _ H1 e1 k1 wlk_rng⟩
/-- for a, b in zip(two tuples or two lists) -/
def zipD (xs ys : List Da) : List Da := List.zipWith (fun x y => .tpw [x, y]) xs ys
theorem zipD_at {xs ys : List Da} {i : Nat} {x y : Da} (h1 : xs[i]? = some x) (h2 : ys[i]? = some y) : (zipD xs ys)[i]? = some (.tpw [x, y]) := by
  unfold zipD
  rw [List.getElem?_zipWith, h1, h2]
theorem zipD_len (xs ys : List Da) : (zipD xs ys).length = min xs.length ys.length := by unfold zipD; rw [List.length_zipWith]
def dItZ (t u : TDE) : TDI := fun r Q => t r fun d => u r fun d' => (∃ xs ys, d = .lst xs ∧ d' = .lst ys ∧ Q (zipD xs ys)) ∨ ∃ xs ys, d = .tup xs ∧ d' = .tup ys ∧ Q (zipD xs ys)
theorem pid_zip {p tpos : Pos} {elts : List Expr} {kk : Nat} {e2 : Expr} {te2 : TDE} (hm : X.mg "zip" = none) (h : PEd X w e te) (h' : PEd X w e2 te2) (hg : Gl X "zip" := by rfl) (h1 : starEach (e :: [e2]) X.env = (false, eval e X.env) :: starEach [e2] X.env := by rfl) (h2 : starEach (e2 :: []) X.env = (false, eval e2 X.env) :: starEach [] X.env := by rfl)
    (hs : starEach [e, e2] X.env = (false, eval e X.env) :: starEach [e2] X.env := by rfl) (hpl : (backTo pos (starEach [e2] X.env)).any (·.1) = false := by rfl) :
    PId X w (.Tuple elts kk tpos) (.Call (.Name "zip" p) [e, e2] [] pos) (dItZ te te2) := by
  refine ⟨weI (RZ.pi_zipA hg hm (pa_cons h.pe (pa_cons h'.pe pa_nil h2) h1) hs hpl) ?_, fun r Q Q' q z => h.mo _ _ _ (fun d z => h'.mo _ _ _ (fun d' z => ?_) z) z⟩
  · rintro σ H R ⟨W, own, r, S, z⟩
    refine go1 h S z fun d v H1 e1 k1 d1 p => go1 h' (S.ext e1 k1) p fun d' v' H2 e2' k2 d2 q => ?_
    have d1' := Dv.mono (e2'.hid k1.gW) _ _ d1
    rcases q with ⟨xs, ys, rfl, rfl, q⟩ | ⟨xs, ys, rfl, rfl, q⟩
    · cases d1' with
      | @lst a us _ a1 a2 =>
        cases d2 with
        | @lst b vs _ b1 b2 =>
          refine ⟨a, b, us, vs, rfl, .inl ⟨SqL.of (hid_some a1).2, SqL.of (hid_some b1).2, q _ H2 (e1.trans e2') k2 ?_⟩⟩
          intro i H' s
          have q1 : SqL X.K H' a us := SqL.of (s _ _ a1)
          have q2 : SqL X.K H' b vs := SqL.of (s _ _ b1)
          rw [zipD_len]
          refine ⟨fun hi => ?_, fun hi => ⟨us, vs, q1, q2, by rw [a2.len, b2.len]; omega⟩, fun v H'' hi y => ?_⟩
          · have hx : i < us.length := by rw [a2.len]; omega
            have hy : i < vs.length := by rw [b2.len]; omega
            exact ⟨us, vs, us[i], vs[i], q1, q2, List.getElem?_eq_getElem hx, List.getElem?_eq_getElem hy⟩
          · obtain ⟨T, x, y, rfl, nT, rfl, fx, fy⟩ := y
            obtain ⟨d, h1, h2⟩ := a2.ta (fx us q1)
            obtain ⟨d', h3, h4⟩ := b2.ta (fy vs q2)
            refine ⟨sm_upd nT, _, zipD_at h1 h3, fun Z z1 z2 => ?_⟩
            exact .tpw (.inl (.inl (z2 T _ nT upd_same))) (.cons (Dv.mono z1 _ _ h2) (.cons (Dv.mono z1 _ _ h4) .nil))
    · cases d1' with
      | @tup a us _ a1 a2 =>
        cases d2 with
        | @tup b vs _ b1 b2 =>
          refine ⟨a, b, us, vs, rfl, .inr ⟨sq_hid a1.sq, sq_hid b1.sq, q _ H2 (e1.trans e2') k2 ?_⟩⟩
          intro i H' s
          have q1 : SqT X.K H' a us := sqt_mono s a1.sq
          have q2 : SqT X.K H' b vs := sqt_mono s b1.sq
          rw [zipD_len]
          refine ⟨fun hi => ?_, fun hi => ⟨us, vs, q1, q2, by rw [a2.len, b2.len]; omega⟩, fun v H'' hi y => ?_⟩
          · have hx : i < us.length := by rw [a2.len]; omega
            have hy : i < vs.length := by rw [b2.len]; omega
            exact ⟨us, vs, us[i], vs[i], q1, q2, List.getElem?_eq_getElem hx, List.getElem?_eq_getElem hy⟩
          · obtain ⟨T, x, y, rfl, nT, rfl, fx, fy⟩ := y
            obtain ⟨d, h1, h2⟩ := a2.ta (fx us q1)
            obtain ⟨d', h3, h4⟩ := b2.ta (fy vs q2)
            refine ⟨sm_upd nT, _, zipD_at h1 h3, fun Z z1 z2 => ?_⟩
            exact .tpw (.inl (.inl (z2 T _ nT upd_same))) (.cons (Dv.mono z1 _ _ h2) (.cons (Dv.mono z1 _ _ h4) .nil))
  · rcases z with ⟨xs, ys, e1, e2, z⟩ | ⟨xs, ys, e1, e2, z⟩
    · exact .inl ⟨xs, ys, e1, e2, q _ z⟩
    · exact .inr ⟨xs, ys, e1, e2, q _ z⟩
end

/-! ### for -/
def forD (gd : TDG) (tb : TDS) (E : EnD) : List Da → En → Prop
  | [] => E.nx
  | d :: ds => fun r => gd d r fun r1 => tb { E with nx := forD gd tb E ds, ct := forD gd tb E ds, bk := E.nx } r1
def dFor (wd : TDI) (gd : TDG) (tb : TDS) : TDS := fun E r => wd r fun ds => forD gd tb E ds r
section
variable {X : Cx} {w : Wd}
theorem forD_mo {K : PySem.W.Frag} {g : TG} {gd : TDG} {vs : List Nat} {tb : TDS} (G : GDt K g gd vs) (m : MoS tb) {E E' : EnD} (l : Le E E') : ∀ ds r, forD gd tb E ds r → forD gd tb E' ds r
  | [], r, h => l.nx r h
  | d :: ds, r, h => G.mo _ _ _ _ (fun r1 z => m { E with nx := forD gd tb E ds, ct := forD gd tb E ds, bk := E.nx } { E' with nx := forD gd tb E' ds, ct := forD gd tb E' ds, bk := E'.nx } r1 ⟨forD_mo G m l ds, l.rt, l.nx, forD_mo G m l ds⟩ z) h
theorem psd_for {tg iter : Expr} {body : List Stmt} {g : TG} {gd : TDG} {vs : List Nat} {wd : TDI} {tb : TDS} {pos : Pos} (hi : PId X w tg iter wd) (hg : PG X tg g) (G : GDt X.K g gd vs) (gmo : ∀ v σ H Q Q', (∀ a b, Q a b → Q' a b) → g v σ H Q → g v σ H Q') (hb : PSsd X w body tb)
    (hp : PassesOwn (model X.prog X.w) X.A X.env X.xe := by exact PassesOwn.never) (hc : X.calm = true := by rfl) (hs : ∀ x, foldedSetIterable iter X.env x = pure x := by intro _; rfl) : PSd X w (.For tg iter body [] pos) (dFor wd gd tb) := by
  refine ⟨weS (ps_for hp hc hi.pi hg hb.ps hs) ?_, fun E E' r l h => hi.mo _ _ _ (fun ds => forD_mo G hb.mo l ds r) h⟩
  rintro E σ H ⟨W, own, r, S, h⟩
  refine ⟨W, own, r, S, hi.mo _ _ _ (fun ds q J H1 e1 k1 wk => ?_) h⟩
  refine ⟨fun i m σ' H' => m = ds.length - i ∧ i ≤ ds.length ∧ ∃ W' own' r', Grow w.g W H1 W' H' ∧ Stt X.K w W' own' r' σ' H' ∧ forD gd tb (endD X.K w W H E) (ds.drop i) r', ⟨ds.length, by simp, Nat.zero_le _, W, own, r, .refl, S.ext e1 k1, by rw [List.drop_zero]; exact q⟩, ?_⟩
  rintro i m σ' H' ⟨rfl, hi', W', own', r', gr, S', f⟩
  have up : Grow w.g W H W' H' := (Grow.of k1 e1).trans gr
  have sm : Sm (hid W H1) (hid W' H') := gr.data k1.gW
  have sm' : Sm (hid W H1) H' := fun a o z => (hid_some (sm a o z)).2
  obtain ⟨w1, w2, w3⟩ := wk i H' sm'
  by_cases hl : i < ds.length
  · refine .inr ⟨w1 hl, fun σ2 H2 => ∃ W2 own2 r2, Grow w.g W H1 W2 H2 ∧ Stt X.K w W2 own2 r2 σ2 H2 ∧ forD gd tb (endD X.K w W H E) (ds.drop (i + 1)) r2, fun σ2 H2 z => ?_, fun x H2 y => ?_⟩
    · exact ⟨ds.length - (i + 1), by omega, rfl, by omega, z⟩
    · obtain ⟨sH, d, hd, dv⟩ := w3 x H2 hl y
      have e2 : Ext w.g H' H2 := Ext.of sH
      have k2 : OkW X.K w.g W' H2 := S'.ok.same sH
      have S2 := S'.ext e2 k2
      have dvx : Dv X.K w.g (hid W' H2) x d := by
        refine dv _ (fun a o z => e2.hid S'.ok.gW a o (sm a o z)) fun b o nb z => ?_
        rw [hid_no]
        · exact z
        · cases y' : W' b with
          | false => rfl
          | true =>
            obtain ⟨o', z'⟩ := S'.ok.al b y'
            rw [nb] at z'; cases z'
      have ed : ds.drop i = d :: ds.drop (i + 1) := by
        obtain ⟨h1, h2⟩ := List.getElem?_eq_some_iff.mp hd
        rw [List.drop_eq_getElem_cons h1, h2]
      rw [ed] at f
      refine gmo _ _ _ _ _ ?_ (G.run w W' own' r' σ' H2 x d _ S2 dvx f)
      rintro σ3 H3 ⟨rfl, _, own3, r3, S3, t3⟩
      refine ⟨W', own3, r3, S3, hb.mo { endD X.K w W H E with nx := forD gd tb (endD X.K w W H E) (ds.drop (i + 1)), ct := forD gd tb (endD X.K w W H E) (ds.drop (i + 1)), bk := (endD X.K w W H E).nx } _ _ ⟨fun r4 z W4 o4 σ4 H4 g4 S4 => ?_, fun d z => z, fun r4 z W4 o4 σ4 H4 g4 S4 => ?_, fun r4 z W4 o4 σ4 H4 g4 S4 => ?_⟩ t3⟩
      · exact ⟨W4, o4, r4, gr.trans ((Grow.of k2 e2).trans g4), S4, z⟩
      · exact z W4 o4 σ4 H4 (up.trans ((Grow.of k2 e2).trans g4)) S4
      · exact ⟨W4, o4, r4, gr.trans ((Grow.of k2 e2).trans g4), S4, z⟩
  · refine .inl ⟨w2 (by omega), ?_⟩
    have ed : ds.drop i = [] := List.drop_eq_nil_of_le (by omega)
    rw [ed] at f
    exact f W' own' σ' H' up S'
end
end Pd
/-! Comprehensions; a def by its data promise. -/
namespace Pd
open PySem PySem.Spec PyProof.Rows L2

structure PTsd (X : Cx) (w : Wd) (ifs : List Expr) (t : TDT) : Prop where
  pt : PTs X ifs (liT X.K w t)
  mo : ∀ r Q Q', (∀ b, Q b → Q' b) → t r Q → t r Q'
def dYes : TDT := fun _ Q => Q true
section
variable {X : Cx} {w : Wd} {e : Expr} {pos : Pos}
theorem ptsd_nil : PTsd X w [] dYes := by
  refine ⟨⟨fun pins s σ H Q I h => pts_nil.run pins s σ H Q I ?_⟩, fun r Q Q' q h => q _ h⟩
  obtain ⟨W, own, r, S, h⟩ := h
  exact h H Ext.refl S.ok
theorem ptsd_one {c : Expr} {t : TDT} (h : PTd X w c t) : PTsd X w [c] t := ⟨pts_one h.pt, h.mo⟩

/-- the turns of a comprehension: acc is made so far -/
def lcD (gd : TDG) (tt : TDT) (te : TDE) (vs : List Nat) (r : En) (Q : Da → Prop) : List Da → List Da → Prop
  | [], acc => Q (.lst acc)
  | d :: ds, acc => gd d (wipeD r vs) fun r2 => tt r2 fun b => if b = true then te r2 fun y => acc.length < sizeLine ∧ lcD gd tt te vs r Q ds (acc ++ [y]) else lcD gd tt te vs r Q ds acc
def dLc (wd : TDI) (gd : TDG) (tt : TDT) (te : TDE) (vs : List Nat) : TDE := fun r Q => wd r fun ds => lcD gd tt te vs r Q ds []

/-- a list that grows at D, hidden -/
def hideD (W : Addr → Bool) (D : Addr) : Addr → Bool := fun a => decide (a = D) || W a
theorem hideD_at {W : Addr → Bool} {D : Addr} : hideD W D D = true := by simp [hideD]
theorem hideD_le {W : Addr → Bool} {D a : Addr} (h : W a = true) : hideD W D a = true := by simp [hideD, h]
theorem hideD_ne {W : Addr → Bool} {D a : Addr} (h : a ≠ D) : hideD W D a = W a := by simp [hideD, h]
theorem BagI.hide {K : PySem.W.Frag} {g : Gd} {W : Addr → Bool} {H : Hp} {D : Addr} (b : BagI K g W H) (n : H D = none) : BagI K g (Pd.hideD W D) H := ⟨fun a ha => by
  obtain ⟨x, y, z, c, cs, h1, h2⟩ := b.bag a ha
  obtain ⟨q1, q2⟩ := hid_some h2
  exact ⟨x, y, z, c, cs, h1, by rw [hid_no (by rw [hideD_ne (ne_of_none q2 n)]; exact q1)]; exact q2⟩, b.tabs⟩
/-- a new thing, hidden -/
theorem BagI.lay {K : PySem.W.Frag} {g : Gd} {W : Addr → Bool} {H : Hp} {D : Addr} {o : HO} (b : BagI K g W H) (gne : ¬ Bd g D) (n : H D = none) : BagI K g (Pd.hideD W D) (L2.upd H D o) := (b.hide n).upd gne hideD_at (fun φ z => by rw [n] at z; cases z)
theorem BagI.free {K : PySem.W.Frag} {g : Gd} {W : Addr → Bool} {H : Hp} {D : Addr} (b : BagI K g W H) (n : H D = none) : ¬ Bd g D := fun h => by
  obtain ⟨o, z⟩ := b.al h
  rw [n] at z; cases z
/-- what is new now was new from the start -/
theorem Stt.new0 {K : PySem.W.Frag} {W : Addr → Bool} {own : Ow} {r : En} {σ : L2.St} {H : Hp} {D : Addr} (S : Stt K w W own r σ H) (hD : H D = none) : w.H0 D = none := by
  cases q : w.H0 D with
  | none => rfl
  | some o =>
    by_cases z : Bd w.g D
    · exact absurd z (S.ok.bag.free hD)
    · rw [S.base D o z q] at hD; cases hD
theorem Stt.wN' {K : PySem.W.Frag} {W : Addr → Bool} {own : Ow} {r : En} {σ : L2.St} {H : Hp} {D : Addr} (S : Stt K w W own r σ H) (hD : H D = none) : ∀ a, Pd.hideD W D a = true → w.W0 a = true ∨ w.H0 a = none := fun a h => by
  by_cases z : a = D
  · rw [z]
    exact .inr (S.new0 hD)
  · rw [hideD_ne z] at h
    exact S.wN a h
theorem Stt.hideD {K : PySem.W.Frag} {W : Addr → Bool} {own : Ow} {r : En} {σ : L2.St} {H H' : Hp} {D : Addr} {xs : List V} (S : Stt K w W own r σ H) (hD : H D = none) (sm : Ext w.g H H') (kD : H' D = some (.lst xs)) (bg : BagI K w.g (Pd.hideD W D) H') : Stt K w (Pd.hideD W D) own r σ H' := by
  have sub : Sm (hid W H) (hid (Pd.hideD W D) H') := fun a o q => by
    obtain ⟨q1, q2⟩ := hid_some q
    have ne : a ≠ D := fun z => by rw [z, hD] at q2; cases q2
    rw [hid_no (by rw [hideD_ne ne]; exact q1)]
    exact sm a o (fun z => by rw [S.ok.gW a z] at q1; cases q1) q2
  refine ⟨⟨bg, fun a h => hideD_le (S.ok.gW a h), fun a h => ?_⟩, S.base.trans sm, fun a h => hideD_le (S.w0 a h), S.g0, S.wN' hD, fun i a h => ?_, fun i j a h1 h2 => ⟨(S.inj i j a h1 h2).1, (S.inj i j a h1 h2).2.up fun o z => sm a o (S.oW i a h1).2.2 z⟩, S.len, fun i d h n => ?_⟩
  · by_cases z : a = D
    · exact ⟨_, by rw [z]; exact kD⟩
    · rw [hideD_ne z] at h
      by_cases y : Bd w.g a
      · exact bg.al y
      · obtain ⟨o, q⟩ := S.ok.al a h
        exact ⟨o, sm a o y q⟩
  · obtain ⟨a1, a2, a3⟩ := S.oW i a h
    exact ⟨hideD_le a1, a2, a3⟩
  · obtain ⟨v, h1, h2⟩ := S.sl i d h n
    refine ⟨v, h1, ?_⟩
    cases d with
    | no => trivial
    | dat d => exact Dv.mono sub _ _ h2
    | own ds =>
      obtain ⟨a, xs, q1, q2, q3, q4⟩ := h2
      exact ⟨a, xs, q1, q2, sm a _ (S.oW i a q1.1).2.2 q3, DvAll.mono sub _ _ q4⟩
    | reg ds =>
      obtain ⟨a, xs, q1, q2, q3, q4⟩ := h2
      exact ⟨a, xs, q1, q2, sm a _ (S.oW i a q1).2.2 q3, DvAll.mono (cutAt_sm (vis_up (fun a o q z => ⟨q, sm a o (S.oW i a q).2.2 z⟩) sub)) _ _ q4⟩
    | od ds =>
      obtain ⟨a, xs, q1, q2, q3, q4⟩ := h2
      exact ⟨a, xs, q1, q2, sm a _ (S.oW i a q1.1).2.2 q3, KvAll.mono sub _ _ q4⟩

theorem lcD_mo {K : PySem.W.Frag} {g : TG} {gd : TDG} {vs' vs : List Nat} {tt : TDT} {te : TDE} {r : En} (G : GDt K g gd vs') (mt : ∀ r Q Q', (∀ b, Q b → Q' b) → tt r Q → tt r Q') (me : ∀ r Q Q', (∀ b, Q b → Q' b) → te r Q → te r Q') {Q Q' : Da → Prop} (q : ∀ d, Q d → Q' d) :
    ∀ ds acc, lcD gd tt te vs r Q ds acc → lcD gd tt te vs r Q' ds acc
  | [], acc, h => q _ h
  | d :: ds, acc, h => G.mo _ _ _ _ (fun r2 z => mt _ _ _ (fun b z => ite_mo (me _ _ _ fun y z => ⟨z.1, lcD_mo G mt me q ds _ z.2⟩) (lcD_mo G mt me q ds _) z) z) h

/-- the reading of a comprehension, given in data -/
theorem lc_in {K : PySem.W.Frag} {g : TG} {gd : TDG} {gvs vs : List Nat} {tt : TDT} {te : TDE} {σ : L2.St} {H : Hp} {Q : VK} {wd : TDI} (G : GDt K g gd gvs) (gmo : ∀ v σ H Q Q', (∀ a b, Q a b → Q' a b) → g v σ H Q → g v σ H Q') (sub : ∀ i ∈ gvs, i ∈ vs)
    (mt : ∀ r Q Q', (∀ b, Q b → Q' b) → tt r Q → tt r Q') (me : ∀ r Q Q', (∀ b, Q b → Q' b) → te r Q → te r Q') (mw : ∀ r Q Q', (∀ ds, Q ds → Q' ds) → wd r Q → wd r Q')
    (h : liE K w (dLc wd gd tt te vs) σ H Q) : tLc (liI K w wd) g (liT K w tt) (liE K w te) vs σ H Q := by
  obtain ⟨W, own, r, S, h⟩ := h
  refine ⟨W, own, r, S, mw _ _ _ (fun ds q J H1 e1 k1 wk => ?_) h⟩
  intro D hD
  have S1 := S.ext e1 k1
  -- the state while the list at D grows
  have gn : ¬ Bd w.g D := S1.ok.bag.free hD
  refine ⟨fun i m H' => m = ds.length - i ∧ i ≤ ds.length ∧ ∃ av ad, Ext w.g H1 H' ∧ BagI K w.g (hideD W D) H' ∧ H' D = some (.lst av) ∧ DvAll K w.g (hid (hideD W D) H') av ad ∧ lcD gd tt te vs r (Aft K w.g W H Q) (ds.drop i) ad, ⟨ds.length, by simp, Nat.zero_le _, [], [], ?_, ?_, upd_same, .nil, by rw [List.drop_zero]; exact q⟩, ?_⟩
  · exact Ext.of (sm_upd hD)
  · exact S1.ok.bag.lay gn hD
  · rintro i m H' ⟨rfl, hi', av, ad, eH, bg, hD', dva, f⟩
    have SD : Stt K w (hideD W D) own r σ H' := S1.hideD hD eH hD' bg
    have sm : Sm (hid W H1) (hid (hideD W D) H') := fun a o z => by
      obtain ⟨q1, q2⟩ := hid_some z
      have ne : a ≠ D := ne_of_none q2 hD
      rw [hid_no (by rw [hideD_ne ne]; exact q1)]
      exact eH a o (fun z => by rw [S1.ok.gW a z] at q1; cases q1) q2
    have sm' : Sm (hid W H1) H' := fun a o z => (hid_some (sm a o z)).2
    obtain ⟨w1, w2, w3⟩ := wk i H' sm'
    by_cases hl : i < ds.length
    · refine .inr ⟨w1 hl, fun H2 => ∃ av ad, Ext w.g H1 H2 ∧ BagI K w.g (hideD W D) H2 ∧ H2 D = some (.lst av) ∧ DvAll K w.g (hid (hideD W D) H2) av ad ∧ lcD gd tt te vs r (Aft K w.g W H Q) (ds.drop (i + 1)) ad, fun H2 z => ?_, fun x H2 y => ?_⟩
      · exact ⟨ds.length - (i + 1), by omega, rfl, by omega, z⟩
      · obtain ⟨sH, d, hd, dv⟩ := w3 x H2 hl y
        have e2 : Ext w.g H' H2 := Ext.of sH
        have k2 : OkW K w.g (hideD W D) H2 := SD.ok.same sH
        have S2 := (SD.ext e2 k2).wipe vs
        have dvx : Dv K w.g (hid (hideD W D) H2) x d := by
          refine dv _ (fun a o z => e2.hid SD.ok.gW a o (sm a o z)) fun b o nb z => ?_
          rw [hid_no]
          · exact z
          · cases y' : hideD W D b with
            | false => rfl
            | true =>
              obtain ⟨o', z'⟩ := SD.ok.al b y'
              rw [nb] at z'; cases z'
        have ed : ds.drop i = d :: ds.drop (i + 1) := by
          obtain ⟨h1, h2⟩ := List.getElem?_eq_some_iff.mp hd
          rw [List.drop_eq_getElem_cons h1, h2]
        rw [ed] at f
        have hD2 : H2 D = some (.lst av) := sH _ _ hD'
        have dva2 : DvAll K w.g (hid (hideD W D) H2) av ad := DvAll.mono (e2.hid SD.ok.gW) _ _ dva
        refine gmo _ _ _ _ _ ?_ (G.run w (hideD W D) own (wipeD r vs) (L2.wipe σ vs) H2 x d _ S2 dvx f)
        rintro σ3 H3 ⟨rfl, wp, own3, r3, S3, t3⟩
        refine ⟨by rw [wp vs sub, wipe_idem], hideD W D, own3, r3, S3, mt _ _ _ (fun b z H4 e4 k4 => ?_) t3⟩
        have gne : ¬ Bd w.g D := fun z => by
          have z1 := S1.ok.al D (S1.ok.gW D z)
          obtain ⟨o, z2⟩ := z1
          rw [hD] at z2; cases z2
        refine ite_mo (fun z => ?_) (fun z => ?_) z
        · refine ⟨hideD W D, own3, r3, S3.ext e4 k4, me _ _ _ (fun y z v H5 e5 k5 d5 => ?_) z⟩
          have e45 := e4.trans e5
          have hD5 : H5 D = some (.lst av) := e45 D _ gne hD2
          have dva5 : DvAll K w.g (hid (hideD W D) H5) av ad := DvAll.mono (e45.hid k2.gW) _ _ dva2
          have eq : hid (hideD W D) (upd H5 D (.lst (av ++ [v]))) = hid (hideD W D) H5 := by
            funext a
            unfold hid
            by_cases z : a = D
            · subst z; rw [hideD_at, if_pos rfl, if_pos rfl]
            · rw [upd_ne z]
          refine ⟨av, hD5, by rw [dva.len]; exact z.1, av ++ [v], ad ++ [y], ⟨fun b o nb hb => ?_, fun a xs ha hx => ?_⟩, k5.bag.upd gne hideD_at (fun φ z => by rw [hD5] at z; cases z), upd_same, by rw [eq]; exact dva5.app (.cons d5 .nil), z.2⟩
          · have ne : b ≠ D := ne_of_none hb hD
            rw [upd_ne ne]
            exact (eH.trans (e2.trans e45)) b o nb hb
          · have ne : a ≠ D := fun z => gne (.inl (z ▸ ha))
            rw [upd_ne ne]
            exact (eH.trans (e2.trans e45)).last a xs ha hx
        · exact ⟨av, ad, eH.trans (e2.trans e4), k4.bag, e4 D _ gne hD2, DvAll.mono (e4.hid k2.gW) _ _ dva2, z⟩
    · refine .inl ⟨w2 (by omega), ?_⟩
      have ed : ds.drop i = [] := List.drop_eq_nil_of_le (by omega)
      rw [ed] at f
      have kW : OkW K w.g W H' := ⟨bg.less fun a h => hideD_le h, S1.ok.gW, fun a ha => SD.ok.al a (hideD_le ha)⟩
      have Wd' : W D = false := by
        cases y' : W D with
        | false => rfl
        | true =>
          obtain ⟨o', z'⟩ := S1.ok.al D y'
          rw [hD] at z'; cases z'
      refine f _ H' (e1.trans eH) kW (.lst (by rw [hid_no Wd']; exact hD') (DvAll.mono (hid_le fun a h => hideD_le h) _ _ dva))

theorem ped_lc {elt tg iter : Expr} {ifs : List Expr} {scope : Scope} {own : List (Str × Nat)} {g : TG} {gd : TDG} {gvs : List Nat} {wd : TDI} {tt : TDT} {te : TDE} (hN : X.N.Nodup) (hi : PId X w tg iter wd) (ok : BlkOk X.N X.env.scope scope own) (G : GDt X.K g gd gvs) (gmo : ∀ v σ H Q Q', (∀ a b, Q a b → Q' a b) → g v σ H Q → g v σ H Q') (sub : ∀ i ∈ gvs, i ∈ own.map (·.2))
    (hg : ∀ (s : Shared) (H : Hp) (C : Addr) (cl : List (Str × Addr)) (fp : List Addr), PG (X.blk s H scope (compEnvC scope cl C X.env) fp) tg g)
    (ht : ∀ (s : Shared) (H : Hp) (C : Addr) (cl : List (Str × Addr)) (fp : List Addr), PTsd (X.blk s H scope (compEnvC scope cl C X.env) fp) w ifs tt)
    (he : ∀ (s : Shared) (H : Hp) (C : Addr) (cl : List (Str × Addr)) (fp : List Addr), PEd (X.blk s H scope (compEnvC scope cl C X.env) fp) w elt te)
    (s0 : Shared) (hc : X.calm = true := by rfl) (hs : ∀ x, foldedSetIterable iter X.env x = pure x := by intro _; rfl) :
    PEd X w (.ListComp elt [⟨tg, iter, ifs, 0⟩] scope pos) (dLc wd gd tt te (own.map (·.2))) := by
  have mt := (ht s0 (fun _ => none) 0 [] []).mo
  have me := (he s0 (fun _ => none) 0 [] []).mo
  refine ⟨weE (pe_lc (tt := liT X.K w tt) (te := liE X.K w te) hc hN hi.pi ok hg (fun s H C cl fp => (ht s H C cl fp).pt) (fun s H C cl fp => (he s H C cl fp).pe) hs) fun σ H Q h => lc_in G gmo sub mt me hi.mo h, fun r Q Q' q h => hi.mo _ _ _ (fun ds => lcD_mo G mt me q ds []) h⟩
/-- name = [..] -/
theorem psd_setLc {i : Nat} {y : Str} {py spos : Pos} {elt tg iter : Expr} {ifs : List Expr} {scope : Scope} {own : List (Str × Nat)} {g : TG} {gd : TDG} {gvs : List Nat} {wd : TDI} {tt : TDT} {te : TDE} (hN : X.N.Nodup) (hi : PId X w tg iter wd) (ok : BlkOk X.N X.env.scope scope own) (G : GDt X.K g gd gvs) (gmo : ∀ v σ H Q Q', (∀ a b, Q a b → Q' a b) → g v σ H Q → g v σ H Q') (sub : ∀ i ∈ gvs, i ∈ own.map (·.2))
    (hg : ∀ (s : Shared) (H : Hp) (C : Addr) (cl : List (Str × Addr)) (fp : List Addr), PG (X.blk s H scope (compEnvC scope cl C X.env) fp) tg g)
    (ht : ∀ (s : Shared) (H : Hp) (C : Addr) (cl : List (Str × Addr)) (fp : List Addr), PTsd (X.blk s H scope (compEnvC scope cl C X.env) fp) w ifs tt)
    (he : ∀ (s : Shared) (H : Hp) (C : Addr) (cl : List (Str × Addr)) (fp : List Addr), PEd (X.blk s H scope (compEnvC scope cl C X.env) fp) w elt te)
    (s0 : Shared) (hsw : swapsWith (.ListComp elt [⟨tg, iter, ifs, 0⟩] scope pos) (some (.Name y py)) spos.line X.env = pure true) (hy : X.N[i]? = some y := by rfl) (hyl : X.env.scope.names.lookup y = some .local := by rfl) (hc : X.calm = true := by rfl) (hs : ∀ x, foldedSetIterable iter X.env x = pure x := by intro _; rfl) :
    PSd X w (.Assign [.Name y py] (.ListComp elt [⟨tg, iter, ifs, 0⟩] scope pos) spos) (dSet (dLc wd gd tt te (own.map (·.2))) i) := by
  have mt := (ht s0 (fun _ => none) 0 [] []).mo
  have me := (he s0 (fun _ => none) 0 [] []).mo
  have mE : ∀ r Q Q', (∀ d, Q d → Q' d) → dLc wd gd tt te (own.map (·.2)) r Q → dLc wd gd tt te (own.map (·.2)) r Q' := fun r Q Q' q h => hi.mo _ _ _ (fun ds => lcD_mo G mt me q ds []) h
  refine ⟨weS (ps_setLc (i := i) (tt := liT X.K w tt) (te := liE X.K w te) hc hN hy hyl hsw hi.pi ok hg (fun s H C cl fp => (ht s H C cl fp).pt) (fun s H C cl fp => (he s H C cl fp).pe) hs) ?_, fun E E' r l h => mE _ _ _ (fun d => l.nx _) h⟩
  rintro D σ H ⟨W, own', r, S, h⟩
  refine lc_in G gmo sub mt me hi.mo ⟨W, own', r, S, mE _ _ _ (fun d z v H1 e1 k1 d1 => ?_) h⟩
  obtain ⟨o2, S2⟩ := (S.ext e1 k1).set (i := i) d1
  exact z W o2 _ H1 (.of k1 e1) S2
end

/-! ### a def by its data promise -/
def startD (N : List Str) (ds : List Da) : En := ds.map .dat ++ List.replicate (N.length - ds.length) .no
theorem start_stt {K : PySem.W.Frag} {g : Gd} {W : Addr → Bool} {H : Hp} {N : List Str} {vs : List V} {ds : List Da} (k : OkW K g W H) (dv : DvAll K g (hid W H) vs ds) : Stt K ⟨H, g, W⟩ W (fun _ _ => False) (startD N ds) (start N vs) H := by
  refine ⟨k, Ext.refl, fun _ h => h, k.gW, (fun _ h => .inl h), (fun i a h => h.elim), (fun i j a h => h.elim), ?_, fun i d h n => ?_⟩
  · unfold startD L2.start
    rw [List.length_append, List.length_append, List.length_map, List.length_map, List.length_replicate, List.length_replicate, dv.len]
  · unfold startD at h
    by_cases hi : i < ds.length
    · rw [List.getElem?_append_left (by rw [List.length_map]; exact hi), List.getElem?_map] at h
      cases q : ds[i]? with
      | none => rw [q] at h; cases h
      | some d' =>
        rw [q] at h
        cases h
        obtain ⟨v, h1, h2⟩ := dv.at q
        refine ⟨v, ?_, h2⟩
        unfold L2.start
        have hv : i < vs.length := by rw [dv.len]; exact hi
        rw [List.getElem?_append_left (by rw [List.length_map]; exact hv), List.getElem?_map, h1]
        rfl
    · rw [List.getElem?_append_right (by rw [List.length_map]; omega), List.getElem?_replicate] at h
      split at h
      · cases h
        exact absurd rfl n
      · cases h
theorem defD {P : Program} {wd : World} {K : PySem.W.Frag} {mg : Str → Option Value} {base : Heap} {x qual : Str} {st : Stmt} {f : Addr} {fd : FuncData} {N ps : List Str} {k : Nat} {p : DSp}
    (F : Fun K x qual st f fd) (S : FnScope N ps (defScope st)) (len : ∀ ds Q, p ds Q → ds.length = ps.length) (mp : MoP p)
    (inside : ∀ (cdv : Value) (A : Around) (outer : List Env) (s0 : Shared) (H : Hp) (E : XK) (w : Wd) (ds : List Da) (Q : Da → Prop), Room k (A.deeper (envOfC qual (defScope st) s0.heap.objs.size f cdv)) → A.guards = some [] → p ds Q →
      ∃ t, PSsd (cxOf CX0 P wd K mg base N qual (defScope st) f cdv A outer s0 H E).nox w (defBody st) t ∧ t { nx := fun _ => Q .non, rt := Q } (startD N ds)) :
    FnG P wd K mg base CX0 (k + 1) f fd ps (liP K p) := by
  refine FunG.ok F S ?_ ?_
  · rintro vs H Q E ⟨g, W, ds, k1, dv, h⟩
    rw [dv.len]
    exact len _ _ h
  · rintro cdv A outer s0 H vs Q E room hG ⟨g, W, ds, k1, dv, h⟩
    obtain ⟨t, ht, hq⟩ := inside cdv A outer s0 H E ⟨H, g, W⟩ ds _ room hG h
    refine ⟨_, ht.ps, W, fun _ _ => False, startD N ds, start_stt k1 dv, ht.mo { nx := fun _ => Aft K g W H Q .non, rt := Aft K g W H Q } _ _ ⟨fun r' q W' o' σ' H' g' S' => ?_, fun d q v H' e1 k2 d2 => q v H' e1 k2 d2, fun _ q => q.elim, fun _ q => q.elim⟩ hq⟩
    have z := ret_ok (E := { nx := fun _ H' => Q .non H', rt := Q }) (d := .non) (v := V.non) S' (fun v H1 e1 k2 d2 => q v H1 e1 k2 d2) H' Ext.refl S'.ok .non
    exact z
end Pd
/-! Built-ins on data. -/
namespace Pd
open PySem PySem.Spec PyProof.Rows L2

/-- lists and tuples -/
def seqOf : Da → Option (List Da)
  | .lst xs => some xs
  | .tup xs => some xs
  | .tpw xs => some xs
  | _ => none
section
variable {K : PySem.W.Frag} {g : Gd} {W : Addr → Bool} {H : Hp}
theorem seq_sq {v : V} {d : Da} {ds : List Da} (h : Dv K g (hid W H) v d) (e : seqOf d = some ds) : ∃ a xs, v = .ref a ∧ (SqL K H a xs ∨ SqT K H a xs) ∧ DvAll K g (hid W H) xs ds := by
  unfold seqOf at e
  split at e
  · cases e
    cases h with
    | lst h1 h2 => exact ⟨_, _, rfl, .inl (SqL.of (hid_some h1).2), h2⟩
  · cases e
    cases h with
    | tup h1 h2 => exact ⟨_, _, rfl, .inr (sq_hid h1.sq), h2⟩
  · cases e
    cases h with
    | tpw h1 h2 => exact ⟨_, _, rfl, .inr (sq_hid h1), h2⟩
  · cases e
theorem DvAll.one {vs : List V} {d : Da} (h : DvAll K g H vs [d]) : ∃ v, vs = [v] ∧ Dv K g H v d := by
  cases h with
  | cons a t => cases t; exact ⟨_, rfl, a⟩
theorem DvAll.two {vs : List V} {d e : Da} (h : DvAll K g H vs [d, e]) : ∃ v u, vs = [v, u] ∧ Dv K g H v d ∧ Dv K g H u e := by
  cases h with
  | cons a t =>
    cases t with
    | cons b t => cases t; exact ⟨_, _, rfl, a, b⟩
end
section
variable {X : Cx} {w : Wd} {e : Expr} {es : List Expr} {p pos : Pos} {t : TDA}

/-! ### len, abs, int, tuple, list, sum -/
def lenD : DB := fun ds Q => ∃ x, ds = [x] ∧ ((∃ xs, seqOf x = some xs ∧ Q (.int (xs.length : Nat))) ∨ ∃ z, x = .str z ∧ z.length ≤ sizeLine ∧ Q (.int (z.length : Nat)))
theorem lenD_mo : MoP lenD := fun ds Q Q' q ⟨x, h1, h⟩ => ⟨x, h1, h.elim (fun ⟨xs, a, b⟩ => .inl ⟨xs, a, q _ b⟩) fun ⟨z, a, b, c⟩ => .inr ⟨z, a, b, q _ c⟩⟩
theorem ped_len (hm : X.mg "len" = none) (args : PAd X w (e :: es) t) (hg : Gl X "len" := by rfl) (he : starEach (e :: es) X.env = (false, eval e X.env) :: starEach es X.env := by rfl) (hpl : (backTo pos (starEach es X.env)).any (·.1) = false := by rfl) :
    PEd X w (.Call (.Name "len" p) (e :: es) [] pos) (dCall lenD t) := by
  refine ped_callB call_len lenD_mo ?_ hm PySem.boot_len args hg (by decide) (by decide) he hpl
  rintro g W H vs ds Q k dv ⟨x, rfl, h⟩
  obtain ⟨v, rfl, dx⟩ := dv.one
  rcases h with ⟨xs, h1, h2⟩ | ⟨z, rfl, h1, h2⟩
  · obtain ⟨a, us, rfl, hq, hd⟩ := seq_sq dx h1
    refine ⟨_, us.length, rfl, ?_, h2.now k ?_⟩
    · rcases hq with hq | hq
      · exact .inl ⟨us, hq, rfl⟩
      · exact .inr ⟨us, hq, rfl⟩
    · rw [hd.len]
      exact .int _
  · cases dx
    exact ⟨_, z.length, rfl, ⟨h1, rfl⟩, h2.now k (.int _)⟩
def absD : DB := fun ds Q => ∃ i, ds = [.int i] ∧ Q (.int (if i < 0 then -i else i))
theorem ped_abs (hm : X.mg "abs" = none) (args : PAd X w (e :: es) t) (hg : Gl X "abs" := by rfl) (he : starEach (e :: es) X.env = (false, eval e X.env) :: starEach es X.env := by rfl) (hpl : (backTo pos (starEach es X.env)).any (·.1) = false := by rfl) :
    PEd X w (.Call (.Name "abs" p) (e :: es) [] pos) (dCall absD t) := by
  refine ped_callB call_abs (fun ds Q Q' q ⟨i, a, b⟩ => ⟨i, a, q _ b⟩) ?_ hm (by decide +kernel) args hg (by decide) (by decide) he hpl
  rintro g W H vs ds Q k dv ⟨i, rfl, h⟩
  obtain ⟨v, rfl, dx⟩ := dv.one
  cases dx
  exact ⟨i, rfl, h.now k (.int _)⟩
def intFD : DB := fun ds Q => (∃ i, ds = [.int i] ∧ Q (.int i)) ∨ ∃ b, ds = [.bl b] ∧ Q (.int (if b then 1 else 0))
theorem ped_intF (hm : X.mg "int" = none) (args : PAd X w (e :: es) t) (hg : Gl X "int" := by rfl) (he : starEach (e :: es) X.env = (false, eval e X.env) :: starEach es X.env := by rfl) (hpl : (backTo pos (starEach es X.env)).any (·.1) = false := by rfl) :
    PEd X w (.Call (.Name "int" p) (e :: es) [] pos) (dCall intFD t) := by
  refine ped_callTy call_int1 (fun ds Q Q' q h => h.elim (fun ⟨i, a, b⟩ => .inl ⟨i, a, q _ b⟩) fun ⟨i, a, b⟩ => .inr ⟨i, a, q _ b⟩) ?_ hm (by decide +kernel) args hg (by decide) (by decide) he hpl
  rintro g W H vs ds Q k dv h
  rcases h with ⟨i, rfl, h⟩ | ⟨i, rfl, h⟩
  · obtain ⟨v, rfl, dx⟩ := dv.one
    cases dx
    exact .inl ⟨i, rfl, h.now k (.int _)⟩
  · obtain ⟨v, rfl, dx⟩ := dv.one
    cases dx
    exact .inr ⟨i, rfl, h.now k (.int _)⟩
def tupFD : DB := fun ds Q => ∃ x, ds = [x] ∧ ((∃ xs, x = .lst xs ∧ Q (.tup xs)) ∨ ∃ xs, x = .tup xs ∧ Q (.tup xs))
theorem ped_tupF (hm : X.mg "tuple" = none) (args : PAd X w (e :: es) t) (hg : Gl X "tuple" := by rfl) (he : starEach (e :: es) X.env = (false, eval e X.env) :: starEach es X.env := by rfl) (hpl : (backTo pos (starEach es X.env)).any (·.1) = false := by rfl) :
    PEd X w (.Call (.Name "tuple" p) (e :: es) [] pos) (dCall tupFD t) := by
  refine ped_callTy cr_tupS (fun ds Q Q' q ⟨x, a, h⟩ => ⟨x, a, h.elim (fun ⟨i, a, b⟩ => .inl ⟨i, a, q _ b⟩) fun ⟨i, a, b⟩ => .inr ⟨i, a, q _ b⟩⟩) ?_ hm (by decide +kernel) args hg (by decide) (by decide) he hpl
  rintro g W H vs ds Q k dv ⟨x, rfl, h⟩
  obtain ⟨v, rfl, dx⟩ := dv.one
  rcases h with ⟨xs, rfl, h⟩ | ⟨xs, rfl, h⟩
  · cases dx with
    | lst a1 a2 => exact ⟨_, _, rfl, .inl ⟨SqL.of (hid_some a1).2, h.newT k a2⟩⟩
  · cases dx with
    | tup a1 a2 => exact ⟨_, _, rfl, .inr ⟨sq_hid a1.sq, h.now k (.tup a1 a2)⟩⟩
def lstFD : DB := fun ds Q => ∃ x xs, ds = [x] ∧ seqOf x = some xs ∧ Q (.lst xs)
theorem ped_lstF (hm : X.mg "list" = none) (args : PAd X w (e :: es) t) (hg : Gl X "list" := by rfl) (he : starEach (e :: es) X.env = (false, eval e X.env) :: starEach es X.env := by rfl) (hpl : (backTo pos (starEach es X.env)).any (·.1) = false := by rfl) :
    PEd X w (.Call (.Name "list" p) (e :: es) [] pos) (dCall lstFD t) := by
  refine ped_callTy call_list_of (fun ds Q Q' q ⟨x, xs, a, b, h⟩ => ⟨x, xs, a, b, q _ h⟩) ?_ hm (by decide +kernel) args hg (by decide) (by decide) he hpl
  rintro g W H vs ds Q k dv ⟨x, xs, rfl, h1, h⟩
  obtain ⟨v, rfl, dx⟩ := dv.one
  obtain ⟨a, us, rfl, hq, hd⟩ := seq_sq dx h1
  exact ⟨a, us, rfl, hq, fun l nl => h.newL k nl hd⟩
/-! ### sorted -/
/-! ### repr -/
def shwOk (x : Da) : Prop := canP x = true ∧ (toP x).showable = true ∧ (toP x).depth ≤ 60 ∧ (toP x).shown.length ≤ sizeLine
def reprD : DB := fun ds Q => ∃ x, ds = [x] ∧ shwOk x ∧ Q (.str (toP x).shown)
mutual
theorem noDict_toP : ∀ d : Da, canP d = true → (toP d).hasDict = false
  | .non, _ => by rw [toP, PyData.hasDict]
  | .bl _, _ => by rw [toP, PyData.hasDict]
  | .int _, _ => by rw [toP, PyData.hasDict]
  | .str _, _ => by rw [toP, PyData.hasDict]
  | .lst xs, h => by rw [toP, PyData.hasDict]; rw [canP] at h; exact noDict_toPs xs h
  | .tup xs, h => by rw [toP, PyData.hasDict]; rw [canP] at h; exact noDict_toPs xs h
  | .tpw xs, h => by rw [toP, PyData.hasDict]; rw [canP] at h; exact noDict_toPs xs h
  | .dct _, h => by rw [canP] at h; cases h
  | .bag, h => by rw [canP] at h; cases h
  | .raw _, h => by rw [canP] at h; cases h
  | .fix _, h => by rw [canP] at h; cases h
theorem noDict_toPs : ∀ ds : List Da, canPs ds = true → PyData.hasDictAll (toPs ds) = false
  | [], _ => by rw [toPs, PyData.hasDictAll]
  | d :: ds, h => by
    rw [canPs, Bool.and_eq_true] at h
    rw [toPs, PyData.hasDictAll, noDict_toP d h.1, noDict_toPs ds h.2]
    rfl
end
def rReprD (K : PySem.W.Frag) : List V → Hp → VK → Prop := fun vs H Q => ∃ v d, vs = [v] ∧ Dp K H v d ∧ d.showable = true ∧ d.hasDict = false ∧ d.depth ≤ 60 ∧ d.shown.length ≤ sizeLine ∧ Q (.str d.shown) H
theorem cr_reprD {k : Nat} (hr : Room k X.A) (hG : X.A.guards = some []) : CallR X (.builtin "repr") (rReprD X.K) := by
  intro pins s σ H vs us Q I r h
  obtain ⟨v, d, rfl, dp, hs, hn, hd, hz, q⟩ := h
  obtain ⟨u, rfl, ru⟩ := vals1 r
  obtain ⟨as, rd⟩ := Dp.reads I d v u dp ru
  have un := hr.un
  have refs : ∀ a : Addr, u = .ref a → wpAny (model X.prog X.w) X.A (call (.builtin "repr") [u]) (EP X pins σ Q) X.xe s := by
    rintro a rfl
    refine repr_of_reads' (h₀ := s.heap) rd hs (PyData.noDict_hsm hn) hG (by omega) (fun _ _ e => e) (fun h' u' tk hk => ?_) hz
    exact ⟨.str d.shown, H, I.kept hk, ⟨u', rfl⟩, q⟩
  have fin : ∀ (x : Str), x = d.shown → EP X pins σ Q (.str x s.toks) { s with toks := s.toks + 1 } := fun x e => ⟨.str d.shown, H, I.tok _, ⟨s.toks, by rw [e]⟩, q⟩
  cases rd with
  | none => exact PySem.P.repr_of_none (fin _ (by rw [PyData.shown]))
  | bool b => exact PySem.P.repr_of_bool (fin _ (by rw [PyData.shown]))
  | int i tk => exact PySem.P.repr_of_int (by rw [PyData.showable] at hs; exact of_decide_eq_true hs) (fin _ (by rw [PyData.shown]))
  | str x tk => exact PySem.P.repr_of_str (fin _ (by rw [PyData.shown])) (by rw [PyData.shown] at hz; exact hz)
  | list _ _ _ _ => exact refs _ rfl
  | tuple _ _ _ _ => exact refs _ rfl
  | dict _ _ _ _ _ => exact refs _ rfl
theorem ped_repr {k : Nat} (hr : Room k X.A) (hG : X.A.guards = some []) (hm : X.mg "repr" = none) (args : PAd X w (e :: es) t) (hg : Gl X "repr" := by rfl) (he : starEach (e :: es) X.env = (false, eval e X.env) :: starEach es X.env := by rfl) (hpl : (backTo pos (starEach es X.env)).any (·.1) = false := by rfl) :
    PEd X w (.Call (.Name "repr" p) (e :: es) [] pos) (dCall reprD t) := by
  refine ped_callB (cr_reprD hr hG) (fun ds Q Q' q ⟨x, a, b, h⟩ => ⟨x, a, b, q _ h⟩) ?_ hm (by decide +kernel) args hg (by decide) (by decide) he hpl
  rintro g W H vs ds Q k dv ⟨x, rfl, ⟨c1, c2, c3, c4⟩, h⟩
  obtain ⟨v, rfl, dx⟩ := dv.one
  exact ⟨v, toP x, rfl, Dv.dp x v (Dv.mono hid_sub _ _ dx) c1, c2, noDict_toP x c1, c3, c4, h.now k (.str _)⟩
end
end Pd
/-! Slices, dicts, count. -/
namespace Pd
open PySem PySem.Spec PyProof.Rows L2

/-! ### slices -/
def cutD (xs : List Da) (lo hi : Option Int) : List Da := (xs.drop (HT.sIx xs.length 0 lo)).take (HT.sIx xs.length xs.length hi - HT.sIx xs.length 0 lo)
theorem DvAll.cut {K : PySem.W.Frag} {g : Gd} {H : Hp} {xs : List V} {ds : List Da} (h : DvAll K g H xs ds) (lo hi : Option Int) : DvAll K g H (cutV xs lo hi) (cutD ds lo hi) := by
  unfold cutV cutD
  rw [h.len]
  exact (h.dr _).tk _
theorem cutV_all {xs : List V} {lo hi : Option Int} (h1 : HT.sIx xs.length 0 lo = 0) (h2 : HT.sIx xs.length xs.length hi = xs.length) : cutV xs lo hi = xs := by
  unfold cutV
  rw [h1, h2, List.drop_zero, Nat.sub_zero, List.take_length]
abbrev TDO := En → (Option Int → Prop) → Prop
def liO (K : PySem.W.Frag) (w : Wd) (t : TDO) : TO := fun σ H Q => ∃ W own r, Stt K w W own r σ H ∧ t r fun o => ∀ H', Ext w.g H H' → OkW K w.g W H' → Q o H'
structure POd (X : Cx) (w : Wd) (o : Option Expr) (t : TDO) : Prop where
  po : PO X o (liO X.K w t)
  mo : ∀ r Q Q', (∀ b, Q b → Q' b) → t r Q → t r Q'
section
variable {X : Cx} {w : Wd} {e a : Expr} {es : List Expr} {p pos p2 : Pos} {te ty : TDE}
def dNoP : TDO := fun _ Q => Q none
def dPart (t : TDE) : TDO := fun r Q => t r fun d => ∃ i, d = .int i ∧ Q (some i)
theorem pod_none : POd X w none dNoP := by
  refine ⟨⟨fun pins s σ H Q I h => po_none.run pins s σ H Q I ?_⟩, fun r Q Q' q h => q _ h⟩
  obtain ⟨W, own, r, S, h⟩ := h
  exact h H Ext.refl S.ok
theorem pod_some (h : PEd X w e te) : POd X w (some e) (dPart te) := by
  refine ⟨⟨fun pins s σ H Q I q => (po_some h.pe).run pins s σ H Q I ?_⟩, fun r Q Q' q z => h.mo _ _ _ (fun d ⟨i, a, b⟩ => ⟨i, a, q _ b⟩) z⟩
  obtain ⟨W, own, r, S, q⟩ := q
  refine go1 h S q fun x v H1 e1 k1 d1 z => ?_
  obtain ⟨i, rfl, z⟩ := z
  cases d1
  exact ⟨i, rfl, z H1 e1 k1⟩
def slD (x : Da) (lo hi : Option Int) (Q : Da → Prop) : Prop := match x with
  | .lst xs => Q (.lst (cutD xs lo hi))
  | .tup xs => Q (.tup (cutD xs lo hi))
  | .str z => z.length ≤ sizeLine ∧ Q (.str (cutS z lo hi))
  | _ => False
theorem slD_mo {x : Da} {lo hi : Option Int} {Q Q' : Da → Prop} (q : ∀ d, Q d → Q' d) (h : slD x lo hi Q) : slD x lo hi Q' := by
  unfold slD at h ⊢
  split at h
  · exact q _ h
  · exact q _ h
  · exact ⟨h.1, q _ h.2⟩
  · exact h.elim
/-- a slice of a tuple, its object told -/
def rSlT2 (K : PySem.W.Frag) : V → Option Int → Option Int → Hp → VK → Prop := fun x lo hi H Q => ∃ a xs, x = .ref a ∧ SqT K H a xs ∧
  (HT.sIx xs.length 0 lo = 0 ∧ HT.sIx xs.length xs.length hi = xs.length → Q (.ref a) H) ∧ NewT (cutV xs lo hi) H Q
theorem sl_tup2 : SlR X (rSlT2 X.K) := by
  intro pins s σ H x v vl vu lo hi sl Q I rx hs pl pu h
  obtain ⟨c, xs, rfl, hx, q1, q2⟩ := h
  cases rx
  obtain ⟨its, r, ht, hz⟩ := I.tuple hx
  have hlen : its.toArray.size = xs.length := by rw [List.size_toArray]; exact r.length.symm
  refine ⟨"tuple", _, PyProof.Rows.slot_tuple_getitem.lookup, ht.typeIs, ?_⟩
  by_cases hw : HT.sIx xs.length 0 lo = 0 ∧ HT.sIx xs.length xs.length hi = xs.length
  · exact getItem_tuple_whole ht hs pl pu (by rw [hlen]; exact hw) ⟨.ref c, H, I, rfl, q1 hw⟩
  · refine HT.getItem_tuple_cut ht hs pl pu (by rw [hlen]; exact hw) ?_ (by rw [hlen]; exact hz)
    rw [hlen]
    have rc : Vals (cutV xs lo hi) ((its.drop (HT.sIx xs.length 0 lo)).take (HT.sIx xs.length xs.length hi - HT.sIx xs.length 0 lo)) := (r.drop _).take _
    exact new_tup I rc (Nat.le_trans (cutV_length xs lo hi) hz) q2
def dSl (t : TDE) (lo hi : TDO) : TDE := fun r Q => t r fun x => lo r fun l => hi r fun u => slD x l u Q
theorem ped_slice {l h : Option Expr} {tl th : TDO} (he : PEd X w e te) (hl : POd X w l tl) (hh : POd X w h th) : PEd X w (.Subscript e (.Slice l h none p2) pos) (dSl te tl th) := by
  refine ⟨weE (pe_slice ((sl_list.or sl_tup2).or sl_str) he.pe hl.po hh.po) ?_, fun r Q Q' q z => he.mo _ _ _ (fun x => hl.mo _ _ _ fun i => hh.mo _ _ _ fun j => slD_mo q) z⟩
  rintro σ H Q ⟨W, own, r, S, z⟩
  refine go1 he S z fun x v H1 e1 k1 d1 z => ?_
  refine ⟨W, own, r, S.ext e1 k1, hl.mo _ _ _ (fun i z H2 e2 k2 => ?_) z⟩
  refine ⟨W, own, r, (S.ext e1 k1).ext e2 k2, hh.mo _ _ _ (fun j z H3 e3 k3 => ?_) z⟩
  have dx : Dv X.K w.g (hid W H3) v x := Dv.mono ((e2.trans e3).hid k1.gW) _ _ d1
  have z' : slD x i j (Aft X.K w.g W H3 Q) := slD_mo (fun d q => q.then (e1.trans (e2.trans e3))) z
  unfold slD at z'
  split at z'
  · cases dx with
    | lst a1 a2 => exact .inl (.inl ⟨_, _, rfl, SqL.of (hid_some a1).2, fun p np => z'.newL k3 np (a2.cut i j)⟩)
  · cases dx with
    | tup a1 a2 =>
      refine .inl (.inr ⟨_, _, rfl, sq_hid a1.sq, fun hw => ?_, z'.newT k3 (a2.cut i j)⟩)
      have e0 := cutV_all hw.1 hw.2
      have a3 := a2.cut i j
      rw [e0] at a3
      exact z'.now k3 (.tup a1 a3)
  · cases dx
    exact .inr ⟨_, rfl, z'.1, z'.2.now k3 (.str _)⟩
  · exact z'.elim

/-! ### dicts -/
def kD : Key → Da
  | .inl i => .int i
  | .inr x => .str x
def valD (kvs : List (Key × Da)) (k : Key) : Option Da := (kvs.find? fun kv => decide (kv.1 = k)).map (·.2)
def putD (kvs : List (Key × Da)) (k : Key) (v : Da) : List (Key × Da) :=
  if (kvs.any fun kv => decide (kv.1 = k)) = true then kvs.map (fun kv => if kv.1 = k then (kv.1, v) else kv) else kvs ++ [(k, v)]
theorem KvAll.val {K : PySem.W.Frag} {g : Gd} {H : Hp} {k : Key} : ∀ {kvs : List (Key × V)} {ds : List (Key × Da)} {d : Da}, KvAll K g H kvs ds → valD ds k = some d → ∃ v, valV kvs k = some v ∧ Dv K g H v d
  | _, _, _, .nil, h => by cases h
  | _, _, d, .cons (k := k') (v := v) (vs := vs) (d := d') (ds := ds) a t, h => by
    by_cases e : k' = k
    · have : valD ((k', d') :: ds) k = some d' := by simp [valD, List.find?_cons, e]
      rw [this] at h
      cases h
      exact ⟨v, valV_pos e, a⟩
    · have : valD ((k', d') :: ds) k = valD ds k := by simp [valD, List.find?_cons, e]
      rw [this] at h
      obtain ⟨u, h1, h2⟩ := t.val h
      exact ⟨u, by rw [valV_neg e]; exact h1, h2⟩
theorem KvAll.app {K : PySem.W.Frag} {g : Gd} {H : Hp} : ∀ {kvs xs : List (Key × V)} {ds es : List (Key × Da)}, KvAll K g H kvs ds → KvAll K g H xs es → KvAll K g H (kvs ++ xs) (ds ++ es)
  | _, _, _, _, .nil, q => q
  | _, _, _, _, .cons a t, q => .cons a (t.app q)
theorem KvAll.anyK {K : PySem.W.Frag} {g : Gd} {H : Hp} {k : Key} : ∀ {kvs : List (Key × V)} {ds : List (Key × Da)}, KvAll K g H kvs ds → (kvs.any fun kv => decide (kv.1 = k)) = ds.any fun kv => decide (kv.1 = k)
  | _, _, .nil => rfl
  | _, _, .cons a t => by rw [List.any_cons, List.any_cons, t.anyK]
theorem KvAll.mapPut {K : PySem.W.Frag} {g : Gd} {H : Hp} {k : Key} {v : V} {d : Da} : ∀ {kvs : List (Key × V)} {ds : List (Key × Da)}, KvAll K g H kvs ds → Dv K g H v d →
    KvAll K g H (kvs.map fun kv => if kv.1 = k then (kv.1, v) else kv) (ds.map fun kv => if kv.1 = k then (kv.1, d) else kv)
  | _, _, .nil, _ => .nil
  | _, _, .cons (k := k') a t, dv => by
    rw [List.map_cons, List.map_cons]
    by_cases e : k' = k
    · rw [if_pos e, if_pos e]; exact .cons dv (t.mapPut dv)
    · rw [if_neg e, if_neg e]; exact .cons a (t.mapPut dv)
theorem KvAll.put {K : PySem.W.Frag} {g : Gd} {H : Hp} {k : Key} {v : V} {d : Da} {kvs : List (Key × V)} {ds : List (Key × Da)} (h : KvAll K g H kvs ds) (dv : Dv K g H v d) : KvAll K g H (putK kvs k v) (putD ds k d) := by
  unfold putK putD
  rw [h.anyK]
  by_cases q : (ds.any fun kv => decide (kv.1 = k)) = true
  · rw [if_pos q, if_pos q]
    exact h.mapPut dv
  · rw [if_neg q, if_neg q]
    exact h.app (.cons dv .nil)
/-! ### t.count(x) -/
mutual
theorem plain_toP : ∀ d : Da, canP d = true → (toP d).plain = true
  | .non, _ => by rw [toP, PyData.plain]
  | .bl _, _ => by rw [toP, PyData.plain]
  | .int _, _ => by rw [toP, PyData.plain]
  | .str _, _ => by rw [toP, PyData.plain]
  | .lst xs, h => by rw [toP, PyData.plain]; rw [canP] at h; exact plain_toPs xs h
  | .tup xs, h => by rw [toP, PyData.plain]; rw [canP] at h; exact plain_toPs xs h
  | .tpw xs, h => by rw [toP, PyData.plain]; rw [canP] at h; exact plain_toPs xs h
  | .dct _, h => by rw [canP] at h; cases h
  | .bag, h => by rw [canP] at h; cases h
  | .raw _, h => by rw [canP] at h; cases h
  | .fix _, h => by rw [canP] at h; cases h
theorem plain_toPs : ∀ ds : List Da, canPs ds = true → PyData.plainAll (toPs ds) = true
  | [], _ => by rw [toPs, PyData.plainAll]
  | d :: ds, h => by
    rw [canPs, Bool.and_eq_true] at h
    rw [toPs, PyData.plainAll, plain_toP d h.1, plain_toPs ds h.2]
    rfl
end
end
end Pd
/-! Where a def stands; its promise by its name; a law's own bag and draws. -/
namespace Pd
open PySem PySem.Spec PyProof.Rows L2

/-- a def of the text, by its name -/
structure DefAt (K : PySem.W.Frag) (mg : Str → Option Value) (x : Str) (st : Stmt) (ps : List Str) : Prop where
  ex : ∃ f fd, Fun K x x st f fd ∧ mg x = some (.ref f) ∧ Binds K fd ps []
/-- a def whose promise is known -/
structure Calld (P : Program) (wd : World) (K : PySem.W.Frag) (mg : Str → Option Value) (base : Heap) (k : Nat) (x : Str) (ps : List Str) (p : DSp) : Prop where
  ex : ∃ f fd, FnG P wd K mg base CX0 k f fd ps (liP K p) ∧ mg x = some (.ref f) ∧ PySem.W.keepIn K (.ref f) = true ∧ Binds K fd ps []
  mp : MoP p
theorem Calld.up {P : Program} {wd : World} {K : PySem.W.Frag} {mg : Str → Option Value} {base : Heap} {j k : Nat} {x : Str} {ps : List Str} {p : DSp} (c : Calld P wd K mg base j x ps p) (h : j ≤ k) : Calld P wd K mg base k x ps p := by
  obtain ⟨⟨f, fd, F, a, b, d⟩, mp⟩ := c
  exact ⟨⟨f, fd, F.up h, a, b, d⟩, mp⟩
section
variable {X : Cx} {w : Wd}
theorem ped_f {x : Str} {p pos : Pos} {k : Nat} {ps : List Str} {sp : DSp} {t : TDA} {e : Expr} {es : List Expr} (c : Calld X.prog X.w X.K X.mg X.base k x ps sp) (room : Room k X.A) (hG : X.A.guards = some []) (args : PAd X w (e :: es) t) (gl : Gl X x := by rfl) (nd : (x == ("__debug__" : Str)) = false := by decide)
    (st : starEach (e :: es) X.env = (false, eval e X.env) :: starEach es X.env := by rfl) (bk : (backTo pos (starEach es X.env)).any (·.1) = false := by rfl) : PEd X w (.Call (.Name x p) (e :: es) [] pos) (dCall sp t) := by
  obtain ⟨⟨f, fd, F, a, b, d⟩, mp⟩ := c
  exact ped_call F mp room hG a b d args gl nd st bk
end
theorem defC {P : Program} {wd : World} {K : PySem.W.Frag} {mg : Str → Option Value} {base : Heap} {x : Str} {st : Stmt} {N ps : List Str} {k : Nat} {p : DSp} (At : DefAt K mg x st ps)
    (S : FnScope N ps (defScope st)) (len : ∀ ds Q, p ds Q → ds.length = ps.length) (mp : MoP p)
    (inside : ∀ (f : Addr) (cdv : Value) (A : Around) (outer : List Env) (s0 : Shared) (H : Hp) (E : XK) (w : Wd) (ds : List Da) (Q : Da → Prop), Room k (A.deeper (envOfC x (defScope st) s0.heap.objs.size f cdv)) → A.guards = some [] → p ds Q →
      ∃ t, PSsd (cxOf CX0 P wd K mg base N x (defScope st) f cdv A outer s0 H E).nox w (defBody st) t ∧ t { nx := fun _ => Q .non, rt := Q } (startD N ds)) :
    Calld P wd K mg base (k + 1) x ps p := by
  obtain ⟨f, fd, F, a, b⟩ := At.ex
  exact ⟨⟨f, fd, defD F S len mp (inside f), a, F.kp, b⟩, mp⟩

/-! ### the bag and a draw -/
section
variable {X : Cx}
theorem pget_list : PGet X (rIxL X.K) := by
  intro pins s σ H x y v u Q I rx ry h
  obtain ⟨p, xs, i, z, rfl, rfl, hq, he, q⟩ := h
  cases rx
  obtain ⟨t, rfl⟩ := ry
  obtain ⟨its, r, pl, hz⟩ := I.list hq
  obtain ⟨j, h1, h2, h3, h4, h5⟩ := atI_get he
  obtain ⟨w, ew, rw'⟩ := r.get h2
  have hl := r.length
  have hn := line63
  have fin : EP X pins σ Q w s := ⟨z, H, I, rw', q⟩
  by_cases h0 : 0 ≤ i
  · have hj : i.toNat = j := by
      have z1 := seqIndex_of h0 h5
      rw [z1] at h1
      cases h1
      rfl
    exact wpAny_getItem_list pl.isList h0 (by omega) (by rw [hj]; simpa using ew) fin
  · have hj : (i + (its.toArray.size : Int)).toNat = j := by
      have z1 := seqIndex_neg (by omega) h4
      rw [z1] at h1
      rw [List.size_toArray, ← hl]
      cases h1
      rfl
    exact wpAny_getItem_list_neg pl.isList (by omega) (by rw [List.size_toArray]; omega) (by omega) (by rw [hj]; simpa using ew) fin
end

/-- a draw: any integer from 0 to below many -/
def pTake : DSp := fun ds Q => ∃ n : Int, ds = [.bag, .int n] ∧ 0 < n ∧ n.natAbs.log2 < 9000 ∧ ∀ r, 0 ≤ r → r < n → Q (.int r)
theorem pTake_mo : MoP pTake := fun ds Q Q' q ⟨n, a, b, c, h⟩ => ⟨n, a, b, c, fun r h1 h2 => q _ (h r h1 h2)⟩
/-- the bag's places -/
def bagL (x y : Int) (z : Nat) (c : Addr) : HO := .lst [.int x, .int y, .int z, .ref c]
/-- in a draw: all but the bag is kept, the bag has its places -/
structure BagT (K : PySem.W.Frag) (H0 : Hp) (g c : Addr) (cs : List Int) (H : Hp) (x y : Int) (z : Nat) : Prop where
  keep : ∀ b o, b ≠ g → H0 b = some o → H b = some o
  at_g : H g = some (bagL x y z c)
  at_c : H c = some (.lst (cs.map V.int))
  ne : c ≠ g
theorem BagT.put {K : PySem.W.Frag} {H0 : Hp} {g c : Addr} {cs : List Int} {H : Hp} {x y : Int} {z : Nat} {x' y' : Int} {z' : Nat} (B : BagT K H0 g c cs H x y z) : BagT K H0 g c cs (upd H g (bagL x' y' z' c)) x' y' z' :=
  ⟨fun b o n h => by rw [upd_ne n]; exact B.keep b o n h, upd_same, by rw [upd_ne B.ne]; exact B.at_c, B.ne⟩
theorem ix4 {n : Nat} {k : Int} {j : Nat} (e : k = (j : Nat)) (h : j < n) : ixN n k = some j := by
  subst e
  unfold ixN
  rw [if_pos (Int.natCast_nonneg j), if_pos (by omega)]
  simp
theorem mul_ok {i j : Int} (h1 : 0 ≤ j) (h2 : j < 2 ^ 64) : CMul i j := .inr ⟨by omega, h2⟩
theorem mod_lt {i n : Int} (h : 0 < n) : 0 ≤ i % n ∧ i % n < n := ⟨Int.emod_nonneg _ (by omega), Int.emod_lt_of_pos _ h⟩

end Pd
/-! Reasoning about data readings: sizes, equal data, comprehensions as maps, loops by invariants. -/
namespace Pd
open PySem PySem.Spec PyProof.Rows L2

/-! ### sizes -/
structure Sz (d : Da) (n c : Nat) : Prop where
  can : canP d = true
  lay : (toP d).canLay0 = true
  shw : (toP d).showable = true
  dep : (toP d).depth ≤ n
  len : (toP d).shown.length ≤ c
theorem Sz.up {d : Da} {n c n' c' : Nat} (h : Sz d n c) (h1 : n ≤ n') (h2 : c ≤ c') : Sz d n' c' := ⟨h.can, h.lay, h.shw, Nat.le_trans h.dep h1, Nat.le_trans h.len h2⟩
theorem Sz.shp {d : Da} {n c : Nat} (h : Sz d n c) (hn : n ≤ 60) : shp d = true := by
  unfold Pd.shp SeqAt.shaped
  rw [h.can, h.lay, decide_eq_true (Nat.le_trans h.dep (Nat.le_trans hn (by decide)))]
  rfl
theorem Sz.ok {d : Da} {n c : Nat} (h : Sz d n c) (hn : n ≤ 60) (hc : c ≤ 16777216) : shwOk d := ⟨h.can, h.shw, Nat.le_trans h.dep hn, Nat.le_trans h.len (by rw [sizeLine_eq]; exact hc)⟩
theorem eqd_refl {d : Da} {n c : Nat} (h : Sz d n c) : eqd d d = true := PySem.SeqAt.eqv_refl _ h.lay
theorem sz_bl (b : Bool) : Sz (.bl b) 0 5 := by
  refine ⟨by rw [canP], by rw [toP, PyData.canLay0], by rw [toP, PyData.showable], by rw [toP, PyData.depth]; exact Nat.le_refl _, ?_⟩
  rw [toP, PyData.shown]
  cases b
  · decide +kernel
  · decide +kernel
theorem sz_int {i : Int} (h : i.natAbs.log2 < 1920) : Sz (.int i) 0 1921 := by
  refine ⟨by rw [canP], by rw [toP, PyData.canLay0], by rw [toP, PyData.showable]; exact decide_eq_true h, by rw [toP, PyData.depth]; exact Nat.le_refl _, ?_⟩
  rw [toP, PyData.shown]
  exact int_text_len_1921 h
theorem log2_of {i : Int} {k : Nat} (h : i.natAbs < 2 ^ k) (hk : 0 < k) : i.natAbs.log2 < k := by
  by_cases z : i.natAbs = 0
  · rw [z]; simpa using hk
  · exact (Nat.log2_lt z).mpr h
theorem sz_str {x : Str} (h : ∀ c ∈ x.cps.toList, c < 128) : Sz (.str x) 0 (10 * x.length + 2) := by
  refine ⟨by rw [canP], ?_, by rw [toP, PyData.showable], by rw [toP, PyData.depth]; exact Nat.le_refl _, ?_⟩
  · rw [toP, PyData.canLay0]
    unfold PyData.strOk
    rw [← Array.all_toList, List.all_eq_true]
    intro c hc
    have := h c hc
    exact decide_eq_true (by omega)
  · rw [toP, PyData.shown]
    exact StrLaws.reprText_len x fun c hc => Nat.lt_trans (h c hc) (by decide)
theorem szs {ds : List Da} {n c : Nat} : (∀ d ∈ ds, Sz d n c) → canPs ds = true ∧ PyData.canLayAll0 (toPs ds) = true ∧ PyData.showableAll (toPs ds) = true ∧ PyData.depthAll (toPs ds) ≤ n ∧ ((PyData.shownAll (toPs ds)).map (·.length)).sum ≤ ds.length * c ∧ (PyData.shownAll (toPs ds)).length = ds.length := by
  induction ds with
  | nil => intro _; refine ⟨by rw [canPs], by rw [toPs, PyData.canLayAll0], by rw [toPs, PyData.showableAll], by rw [toPs, PyData.depthAll]; exact Nat.zero_le _, by rw [toPs, PyData.shownAll]; exact Nat.zero_le _, by rw [toPs, PyData.shownAll]; rfl⟩
  | cons d ds ih =>
    intro h
    obtain ⟨a1, a2, a3, a4, a5, a6⟩ := ih fun e he => h e (List.mem_cons_of_mem _ he)
    have hd := h d List.mem_cons_self
    refine ⟨by rw [canPs, hd.can, a1]; rfl, by rw [toPs, PyData.canLayAll0, hd.lay, a2]; rfl, by rw [toPs, PyData.showableAll, hd.shw, a3]; rfl, by rw [toPs, PyData.depthAll]; exact Nat.max_le.mpr ⟨hd.dep, a4⟩, ?_, by rw [toPs, PyData.shownAll, List.length_cons, List.length_cons, a6]⟩
    rw [toPs, PyData.shownAll, List.map_cons, List.sum_cons, List.length_cons, Nat.add_mul, Nat.one_mul]
    have := hd.len
    omega
theorem sz_lst {ds : List Da} {n c : Nat} (h : ∀ d ∈ ds, Sz d n c) : Sz (.lst ds) (n + 1) (ds.length * (c + 2) + 3) := by
  obtain ⟨a1, a2, a3, a4, a5, a6⟩ := szs h
  refine ⟨by rw [canP]; exact a1, by rw [toP, PyData.canLay0]; exact a2, by rw [toP, PyData.showable]; exact a3, by rw [toP, PyData.depth]; omega, ?_⟩
  rw [toP, PyData.shown]
  have q := listText_len_le (PyData.shownAll (toPs ds))
  rw [a6] at q
  rw [Nat.mul_add]
  omega
theorem sz_tup {ds : List Da} {n c : Nat} (h : ∀ d ∈ ds, Sz d n c) : Sz (.tup ds) (n + 1) (ds.length * (c + 2) + 3) := by
  obtain ⟨a1, a2, a3, a4, a5, a6⟩ := szs h
  refine ⟨by rw [canP]; exact a1, by rw [toP, PyData.canLay0]; exact a2, by rw [toP, PyData.showable]; exact a3, by rw [toP, PyData.depth]; omega, ?_⟩
  rw [toP, PyData.shown]
  have q := tupleText_len_le (PyData.shownAll (toPs ds))
  rw [a6] at q
  rw [Nat.mul_add]
  omega

/-! ### equal data -/
theorem eqd_int (i j : Int) : eqd (.int i) (.int j) = (i == j) := by unfold eqd; rw [toP, toP, PyData.eqv]
theorem shp_int (i : Int) : shp (.int i) = true := by unfold shp SeqAt.shaped; rw [canP, toP, PyData.canLay0, PyData.depth]; rfl
/-! ### comprehensions -/
/-- without tests: whatever each element may be -/
theorem lcD_all {gd : TDG} {te : TDE} {vs : List Nat} {r : En} {Q : Da → Prop} (F : Da → Da → Prop) : ∀ (ds acc : List Da),
    acc.length + ds.length ≤ 16777216 → (∀ d ∈ ds, ∀ P : Da → Prop, (∀ y, F d y → P y) → gd d (wipeD r vs) fun r2 => te r2 P) → (∀ ys, Paired F ds ys → Q (.lst (acc ++ ys))) → lcD gd dYes te vs r Q ds acc
  | [], acc, _, _, q => by
    have z := q [] .nil
    rw [List.append_nil] at z
    exact z
  | d :: ds, acc, hl, h, q => by
    rw [List.length_cons] at hl
    refine h d List.mem_cons_self (fun y => acc.length < sizeLine ∧ lcD gd dYes te vs r Q ds (acc ++ [y])) fun y fy => ⟨by rw [sizeLine_eq]; omega, ?_⟩
    refine lcD_all F ds (acc ++ [y]) (by rw [List.length_append]; show acc.length + 1 + _ ≤ _; omega) (fun e he => h e (List.mem_cons_of_mem _ he)) fun ys hy => ?_
    rw [List.append_assoc]
    exact q (y :: ys) (.cons fy hy)
/-! ### loops -/
end Pd
/-! (x,) * n; texts split; a script's bag; a draw. -/
namespace Pd
open PySem PySem.Spec PyProof.Rows L2

/-! ### a tuple n times -/
theorem mul_none (l : Addr) (items : Array Value) (n : Nat) (dd : Option Addr) (sl : Array (Option Value)) (x : Int) (u : Tok) (c0 : (decide (x < -(2 ^ 63)) || decide (x ≥ 2 ^ 63)) = false) (c1 : (items.isEmpty || x == 1) = false) (c2 : (decide (x ≤ 0) || items.isEmpty) = true) :
    Meets (Builtin.«tuple.__mul__» ⟨[.ref l, .int x u], []⟩) (fun _ R s => s.heap.get? l = some { cls := .type "tuple", dict := dd, data := .seq items n, slots := sl } ∧
      R (.ok (.ret (Value.ref s.heap.objs.size))) { s with heap := s.heap.push { cls := Value.type "tuple", data := Data.seq #[] }, toks := s.toks }) :=
  .of_wp fun prog w A R s h => by
    obtain ⟨hp, g, d, tk, os⟩ := s
    obtain ⟨hl, h⟩ := h
    have f1 := AutoSeq1.idx_int
    have hsz : (#[] : Array Value).size ≤ sizeLine := Nat.zero_le _
    wp_walk using wpAny_loadPart' hl
    repeat (first
      | (refine wpAny_ite_false (decide_eq_false (by rw [c0]; exact Bool.false_ne_true)) ?_; wp_walk using wpAny_loadPart' hl)
      | (refine wpAny_ite_false (decide_eq_false (by rw [c1]; exact Bool.false_ne_true)) ?_; wp_walk using wpAny_loadPart' hl)
      | (refine wpAny_ite_true (decide_eq_true c2) ?_; wp_walk using wpAny_loadPart' hl))
    exact ⟨_, rfl, h⟩
theorem mul_once (l : Addr) (items : Array Value) (n : Nat) (dd : Option Addr) (sl : Array (Option Value)) (x : Int) (u : Tok) (c0 : (decide (x < -(2 ^ 63)) || decide (x ≥ 2 ^ 63)) = false) (c1 : (items.isEmpty || x == 1) = true) :
    Meets (Builtin.«tuple.__mul__» ⟨[.ref l, .int x u], []⟩) (fun _ R s => s.heap.get? l = some { cls := .type "tuple", dict := dd, data := .seq items n, slots := sl } ∧
      R (.ok (.ret (Value.ref l))) s) :=
  .of_wp fun prog w A R s h => by
    obtain ⟨hp, g, d, tk, os⟩ := s
    obtain ⟨hl, h⟩ := h
    have f1 := AutoSeq1.idx_int
    wp_walk using wpAny_loadPart' hl
    repeat (first
      | (refine wpAny_ite_false (decide_eq_false (by rw [c0]; exact Bool.false_ne_true)) ?_; wp_walk using wpAny_loadPart' hl)
      | (refine wpAny_ite_true (decide_eq_true c1) ?_; wp_walk using wpAny_loadPart' hl))
    exact ⟨_, rfl, h⟩

def rRepS (K : PySem.W.Frag) : R2 := fun x y H Q => ∃ l k xs, x = .ref l ∧ y = .int k ∧ SqT K H l xs ∧ xs ≠ [] ∧ -1000 ≤ k ∧ k ≤ 1000 ∧ xs.length ≤ 1000 ∧ (k = 1 → Q (.ref l) H) ∧ NewT (List.replicate k.toNat xs).flatten H Q
section
variable {X : Cx}
theorem op_repS : OpR X (binaryOp .Mult) (rRepS X.K) := by
  intro pins s σ H x y v u Q I rx ry h
  obtain ⟨l, k, xs, rfl, rfl, hT, hne, h0, h2, hz, q1, q⟩ := h
  cases rx
  obtain ⟨t, rfl⟩ := ry
  obtain ⟨its, r, pl, hs⟩ := I.tuple hT
  obtain ⟨⟨cls, dd, data, sl⟩, ho, hc, n, hd⟩ := id pl
  simp only at hc hd
  subst hc hd
  have hle : its.length = xs.length := r.length.symm
  have hn : its ≠ [] := fun e => hne (r.nil_iff.mp e)
  have hi : its.toArray.isEmpty = false := by
    cases its with
    | nil => exact absurd rfl hn
    | cons a b => rfl
  have z1 : k.toNat * xs.length ≤ 1000 * 1000 := Nat.mul_le_mul (by omega) hz
  have flen : (List.replicate k.toNat its).flatten.length ≤ sizeLine := by
    rw [PyProof.Rows.lm_len_rep_flat, hle, sizeLine_eq]
    omega
  have c0 : (decide (k < -(2 ^ 63)) || decide (k ≥ 2 ^ 63)) = false := by
    rw [decide_eq_false (show ¬ k < -(2 ^ 63) by omega), decide_eq_false (show ¬ k ≥ 2 ^ 63 by omega)]
    rfl
  have go : ∀ {S : PySem.Spec}, Meets (Builtin.«tuple.__mul__» ⟨[.ref l, .int k t], []⟩) S → S X.A (wants (EP X pins σ Q) X.xe) s → wpAny (model X.prog X.w) X.A (binaryOp .Mult (.ref l) (.int k t)) (EP X pins σ Q) X.xe s := fun m hS =>
    wpAny_binaryOp_repeat_ref (T := "tuple") (U := "int") (by decide) ⟨_, ho, rfl⟩ (fun s' => typeIs_int s' k t) noFill_tuple_mul F.fills_int_mul F.slot_int_rmul repeat_tuple F.slot_int_index.lookup
      (call_meets F.slot_int_rmul (typeIs_int s k t) F.entry_int_rmul (F.args_int_rmul_2 _ _) (int_rmul_tuple k t l its.toArray n dd sl)
        ⟨ho, rfl, ⟨_, ho, rfl⟩, call_meets F.slot_tuple_mul ⟨_, ho, rfl⟩ F.entry_tuple_mul (F.args_tuple_mul_2 _ _) m hS⟩)
  by_cases k1 : k = 1
  · refine go (mul_once l its.toArray n dd sl k t c0 (by rw [hi, Bool.false_or]; exact beq_iff_eq.mpr k1)) ⟨ho, ?_⟩
    exact ⟨.ref l, H, I, rfl, q1 k1⟩
  · have c1 : (its.toArray.isEmpty || k == 1) = false := by
      rw [hi, Bool.false_or]
      exact beq_eq_false_iff_ne.mpr k1
    by_cases k0 : k ≤ 0
    · refine go (mul_none l its.toArray n dd sl k t c0 c1 (by rw [decide_eq_true k0]; rfl)) ⟨ho, ?_⟩
      have e : (List.replicate k.toNat xs).flatten = [] := by
        rw [show k.toNat = 0 by omega]
        rfl
      rw [e] at q
      exact new_tup (its := []) I .nil (Nat.zero_le _) q
    · have c2 : (decide (k ≤ 0) || its.toArray.isEmpty) = false := by
        rw [hi, Bool.or_false]
        exact decide_eq_false k0
      have hm : ((its.toArray.size : Nat) : Int) * k ≤ 1000000 := by
        rw [List.size_toArray, hle]
        have a1 : ((xs.length : Nat) : Int) * k ≤ 1000 * k := Int.mul_le_mul_of_nonneg_right (by omega) (by omega)
        omega
      have c4 : Builtin.Tuple.tupleTooMany (((its.toArray.size : Nat) : Int) * k) = false := by
        unfold Builtin.Tuple.tupleTooMany
        rw [sizeLine_eq]
        exact decide_eq_false (by omega)
      refine go (tuple_mulW l its.toArray n dd sl k t c0 c1 c2 (by omega) c4 (by rw [size_rep, List.size_toArray]; exact flen)) ⟨ho, ?_⟩
      rw [size_rep]
      refine new_tup I (r.rep k.toNat) ?_ q
      rw [PyProof.Rows.lm_len_rep_flat, sizeLine_eq]
      omega
def repTD : DD := fun x y Q => ∃ xs n, x = .tup xs ∧ y = .int n ∧ xs ≠ [] ∧ -1000 ≤ n ∧ n ≤ 1000 ∧ xs.length ≤ 1000 ∧ Q (.tup (List.replicate n.toNat xs).flatten)
theorem ped_repT {w : Wd} {a b : Expr} {pos : Pos} {ta tb : TDE} (ha : PEd X w a ta) (hb : PEd X w b tb) : PEd X w (.BinOp a .Mult b pos) (dOp repTD ta tb) := by
  refine ped_bin op_repS (fun x y Q Q' q ⟨xs, n, a, b, c, d, e, f, h⟩ => ⟨xs, n, a, b, c, d, e, f, q _ h⟩) ?_ ha hb
  rintro g W H v u x y Q k dx dy ⟨xs, n, rfl, rfl, h1, h2, h3, h4, h⟩
  cases dy
  cases dx with
  | @tup c us _ a1 a2 =>
    refine ⟨c, n, us, rfl, rfl, sq_hid a1.sq, fun e => ?_, h2, h3, by rw [a2.len]; exact h4, fun e => ?_, h.newT k (a2.rep _)⟩
    · subst e
      cases a2
      exact h1 rfl
    · subst e
      have e2 : (List.replicate (1 : Int).toNat xs).flatten = xs := by
        show (List.replicate 1 xs).flatten = xs
        simp
      rw [e2] at h
      exact h.now k (.tup a1 a2)

/-! ### texts split -/
end
end Pd
/-! A law's own frame: the bag is made of the script, then the rest in data; the end of a row. -/
namespace Pd
open PySem PySem.Spec PyProof.Rows L2

/-! ### the bag, made -/
def spBag (K : PySem.W.Frag) : Sp := fun vs H Q _ => ∃ (a : Addr) (ns : List Int), vs = [.ref a] ∧ SqL K H a (ns.map V.int) ∧ ns.length ≤ 63 ∧
  ∀ (H' : Hp) (p c : Addr) (cs : List Int), Sm H H' → H p = none → H c = none → c ≠ p → H' p = some (bagL 0 1234567891 0 c) → H' c = some (.lst (cs.map V.int)) → Q (.ref p) H'
def absI (i : Int) : Int := if i < 0 then -i else i
theorem cutV_ints (ns : List Int) (lo hi : Option Int) : ∃ ms : List Int, cutV (ns.map V.int) lo hi = ms.map V.int ∧ ms.length ≤ ns.length := by
  unfold cutV
  rw [← List.map_drop, ← List.map_take]
  refine ⟨_, rfl, ?_⟩
  rw [List.length_take, List.length_drop]
  omega
theorem bag_read (K : PySem.W.Frag) (vs : List V) (H : Hp) (Q : VK) (E : XK) (h : spBag K vs H Q E) (m1 : TT) (hm : m1 = tYes) :
    tRet (tLst (tCons (tC (.int 0)) (tCons (tC (.int 1234567891)) (tCons (tC (.int 0)) (tCons (tLc (iList K (tSl (rSlL K) (tVar 0) tNoPart (tPart (tC (.int 63))))) (gName 1) m1 (tCB (fun xs H Q => ∃ i, xs = [V.int i] ∧ Q (.int (if i < 0 then -i else i)) H) (tCons (tVar 1) tNil)) [1]) tNil)))))
      { nx := fun _ H' => Q .non H', rt := Q } (L2.start ["_law_script", "_law_cell"] vs) H := by
  subst hm
  obtain ⟨a, ns, rfl, hS, hl, q⟩ := h
  refine ⟨.ref a, rfl, 63, rfl, a, ns.map V.int, rfl, hS, fun b nb => ?_⟩
  obtain ⟨ms, em, lm⟩ := cutV_ints ns none (some 63)
  have sb : Sm H (upd H b (.lst (cutV (ns.map V.int) none (some 63)))) := sm_upd nb
  refine ⟨b, rfl, ⟨_, SqL.of upd_same⟩, fun D hD => ?_⟩
  have nDb : D ≠ b := fun e => by rw [e, upd_same] at hD; cases hD
  rw [em] at hD sb ⊢
  refine lc_list (K := K) (a := b) (xs := ms.map V.int) (fun i H' => (∀ x o, x ≠ D → upd H b (.lst (ms.map V.int)) x = some o → H' x = some o) ∧ H' D = some (.lst (((ms.take i).map absI).map V.int))) ⟨fun x o n e => by rw [upd_ne n]; exact e, upd_same⟩
    (fun i H' _ h => SqL.of (h.1 b _ nDb.symm upd_same)) ?_ ?_
  · rintro i x H' hi ⟨k, hD'⟩
    obtain ⟨z, hz, rfl⟩ : ∃ z, ms[i]? = some z ∧ x = V.int z := by
      rw [List.getElem?_map] at hi
      cases e : ms[i]? with
      | none => rw [e] at hi; cases hi
      | some z => rw [e] at hi; exact ⟨z, rfl, (Option.some.inj hi).symm⟩
    refine ⟨rfl, ?_⟩
    unfold tYes
    dsimp only
    rw [if_pos rfl]
    refine ⟨_, rfl, z, rfl, _, hD', ?_, fun y o n e => by rw [upd_ne n]; exact k y o n e, ?_⟩
    · rw [List.length_map, List.length_map, List.length_take, sizeLine_eq]
      omega
    · rw [upd_same, List.take_add_one, hz, List.map_append, List.map_append]
      rfl
  · rintro H' ⟨k, hD'⟩
    rw [List.length_map, List.take_length] at hD'
    refine ⟨by show 4 ≤ sizeLine; decide, fun p np => ?_⟩
    have nDp : D ≠ p := ne_of_none hD' np
    have hDn : H D = none := by
      cases e : H D with
      | none => rfl
      | some o => rw [sb D o e] at hD; cases hD
    have keep : Sm H H' := fun x o e => k x o (ne_of_none e hDn) (sb x o e)
    have hp : H p = none := by
      cases e : H p with
      | none => rfl
      | some o => rw [keep p o e] at np; cases np
    refine q _ p D _ (fun x o e => ?_) hp hDn nDp upd_same (by rw [upd_ne nDp]; exact hD')
    rw [upd_ne (ne_of_none e hp)]
    exact keep x o e

/-! ### the law -/
def spLawT (K : PySem.W.Frag) (T : List (Addr × Str)) : Sp := fun vs H Q _ => (∀ p ∈ T, H p.1 = some (.tbl #[])) ∧ ∃ (a : Addr) (ns : List Int), vs = [.ref a] ∧ SqL K H a (ns.map V.int) ∧ ns.length ≤ 63 ∧ ∀ H', Q (.bl true) H'
def liX (K : PySem.W.Frag) (T : List (Addr × Str)) (t : TDS) : TS := fun E σ H => ∃ w, w.g.tab = T ∧ liS K w t E σ H
theorem pssX {X : Cx} {T : List (Addr × Str)} {sts : List Stmt} {t : TDS} (h : ∀ w, w.g.tab = T → PSsd X w sts t) : PSs X sts (liX X.K T t) := by
  constructor
  rintro pins s σ H D I ⟨w, hw, q⟩
  exact (h w hw).ps.run pins s σ H D I q
/-- the slots behind the bag's making: nothing but the bag, at 1 -/
def lawStart (n : Nat) : En := .no :: .dat .bag :: List.replicate n .no
theorem lawGT {P : Program} {wd : World} {K : PySem.W.Frag} {mg : Str → Option Value} {base : Heap} {st s1 : Stmt} {rest : List Stmt} {f : Addr} {fd : FuncData} {n : Nat} {names : List Str} {k : Nat} (T : List (Addr × Str))
    (F : Fun K "law" "law" st f fd) (S : FnScope ("_law_script" :: "_law_bag_here" :: names) ["_law_script"] (defScope st)) (hn : names.length = n) (hb : defBody st = s1 :: rest)
    (inside : ∀ (cdv : Value) (A : Around) (outer : List Env) (s0 : Shared) (H : Hp) (E : XK), fd.code = cdv → Room k (A.deeper (envOfC "law" (defScope st) s0.heap.objs.size f cdv)) → A.guards = some [] →
      ∃ td, PS (cxOf CX0 P wd K mg base ("_law_script" :: "_law_bag_here" :: names) "law" (defScope st) f cdv A outer s0 H E).nox s1 (tAsg (tCall (spBag K) [] E0 (tCons (tVar 0) tNil)) (gName 1)) ∧
        (∀ w, w.g.tab = T → PSsd (cxOf CX0 P wd K mg base ("_law_script" :: "_law_bag_here" :: names) "law" (defScope st) f cdv A outer s0 H E).nox w rest td) ∧ td { nx := fun _ => False, rt := fun d => d = .bl true } (lawStart n)) :
    FnG P wd K mg base CX0 (k + 1) f fd ["_law_script"] (spLawT K T) := by
  refine FunG.okC F S ?_ ?_
  · rintro vs H Q E ⟨_, a, ns, rfl, _⟩
    rfl
  · rintro cdv A outer s0 H vs Q E hcd room hG ⟨hT, a, ns, rfl, hS, hl, q⟩
    obtain ⟨td, h1, h2, h3⟩ := inside cdv A outer s0 H E hcd room hG
    rw [hb]
    refine ⟨_, pss_cons h1 (pssX h2), .ref a, rfl, a, ns, rfl, hS, hl, fun H' p c cs sm np nc ne hp hc => ?_⟩
    let g : Gd := ⟨some p, T⟩
    let W : Addr → Bool := fun b => decide (b = p) || T.any fun q => decide (q.1 = b)
    have Wp : W p = true := by show (decide (p = p) || _) = true; rw [decide_eq_true rfl]; rfl
    have WT : ∀ b, W b = true → b = p ∨ ∃ q, (b, q) ∈ T := fun b hb => by
      rcases Bool.or_eq_true _ _ ▸ hb with z | z
      · exact .inl (of_decide_eq_true z)
      · obtain ⟨q, q1, q2⟩ := List.any_eq_true.mp z
        exact .inr ⟨q.2, by rw [← of_decide_eq_true q2]; exact q1⟩
    have Tt : ∀ q ∈ T, H' q.1 = some (.tbl #[]) := fun q hq => sm _ _ (hT q hq)
    have Wc : W c = false := by
      cases e : W c with
      | false => rfl
      | true =>
        rcases WT c e with z | ⟨q, z⟩
        · exact absurd z ne
        · have t := hT _ z
          rw [nc] at t
          cases t
    have kW : OkW K g W H' := by
      refine ⟨⟨fun b hb => ?_, fun q hq => LamX.TabS.nil (Tt q hq)⟩, fun b hb => ?_, fun b hb => ?_⟩
      · cases hb
        exact ⟨0, 1234567891, 0, c, cs, hp, by rw [hid_no Wc]; exact hc⟩
      · rcases hb with hb | ⟨q, hb⟩
        · cases hb
          exact Wp
        · show (_ || T.any _) = true
          rw [Bool.or_eq_true]
          exact .inr (List.any_eq_true.mpr ⟨_, hb, decide_eq_true rfl⟩)
      · rcases WT b hb with z | ⟨q, z⟩
        · rw [z]
          exact ⟨_, hp⟩
        · exact ⟨_, Tt _ z⟩
    refine ⟨⟨H', g, W⟩, rfl, W, fun _ _ => False, lawStart n, ⟨kW, Ext.refl, fun _ h => h, kW.gW, (fun _ h => .inl h), (fun i a h => by cases h), (fun i j a h => by cases h), ?_, fun i d h nd => ?_⟩, (h2 ⟨H', g, W⟩ rfl).mo { nx := fun _ => False, rt := fun d => d = .bl true } _ _ ⟨fun _ z => z.elim, fun d z v H2 e2 k2 d2 => ?_, fun _ z => z.elim, fun _ z => z.elim⟩ h3⟩
    · unfold lawStart L2.start
      simp only [List.length_cons, List.length_replicate, List.length_set, List.length_append, List.length_map, List.length_nil, hn]
      omega
    · match i, h with
      | 0, h => cases h; exact absurd rfl nd
      | 1, h =>
        cases h
        exact ⟨.ref p, rfl, .bag rfl⟩
      | i + 2, h =>
        have : (List.replicate n Sl.no)[i]? = some d := h
        rw [List.getElem?_replicate] at this
        split at this
        · cases this; exact absurd rfl nd
        · cases this
    · subst z
      cases d2
      exact q H2
end Pd
/-! sum of a tuple; readings of slices, counts, dicts. -/
namespace Pd
open PySem PySem.Spec PyProof.Rows L2

section
variable {X : Cx} {w : Wd}
end

/-! ### readings -/
theorem cutD_from (xs : List Da) {t : Nat} (h : t ≤ xs.length) : cutD xs (some (t : Int)) none = xs.drop t := by
  unfold cutD
  rw [HT.sIx_nat, HT.sIx_none, Nat.min_eq_left h, List.take_of_length_le]
  rw [List.length_drop]
  exact Nat.le_refl _
theorem cutD_to (xs : List Da) (t : Nat) : cutD xs none (some (t : Int)) = xs.take t := by
  unfold cutD
  rw [HT.sIx_nat, HT.sIx_none, List.drop_zero, Nat.sub_zero]
  rcases Nat.le_total t xs.length with h | h
  · rw [Nat.min_eq_left h]
  · rw [Nat.min_eq_right h, List.take_of_length_le (Nat.le_refl _), List.take_of_length_le h]
end Pd
/-! Comprehensions by their results; rows of integers and tuples of texts. -/
namespace Pd
open PySem PySem.Spec PyProof.Rows L2

/-- without tests: the list that comes out is given -/
theorem lcD_ix {gd : TDG} {te : TDE} {vs : List Nat} {r : En} {Q : Da → Prop} : ∀ (ds res acc : List Da), res.length = ds.length → acc.length + ds.length ≤ 16777216 →
    (∀ (k : Nat) (h1 : k < ds.length) (h2 : k < res.length) (P : Da → Prop), P res[k] → gd ds[k] (wipeD r vs) fun r2 => te r2 P) → Q (.lst (acc ++ res)) → lcD gd dYes te vs r Q ds acc
  | [], [], acc, _, _, _, q => by
    rw [List.append_nil] at q
    exact q
  | [], y :: ys, _, e, _, _, _ => by cases e
  | d :: ds, [], _, e, _, _, _ => by cases e
  | d :: ds, y :: ys, acc, e, hl, h, q => by
    rw [List.length_cons] at hl
    refine h 0 (Nat.succ_pos _) (Nat.succ_pos _) (fun z => acc.length < sizeLine ∧ lcD gd dYes te vs r Q ds (acc ++ [z])) ⟨by rw [sizeLine_eq]; omega, ?_⟩
    refine lcD_ix ds ys (acc ++ [y]) (Nat.succ.inj e) (by rw [List.length_append]; show acc.length + 1 + _ ≤ _; omega) (fun k h1 h2 P hP => ?_) ?_
    · exact h (k + 1) (Nat.succ_lt_succ h1) (Nat.succ_lt_succ h2) P hP
    · rw [List.append_assoc]
      exact q
theorem at_da {is : List Da} {k : Nat} (h : k < is.length) : L2.atI is ((k : Nat) : Int) = some is[k] := by
  refine L2.atI_nat ?_
  rw [List.getElem?_eq_getElem h]

/-- integers up to b either way -/
def Upto (b : Int) (is : List Int) : Prop := ∀ i ∈ is, -b ≤ i ∧ i ≤ b
theorem Upto.at {b : Int} {is : List Int} (h : Upto b is) {k : Nat} (hk : k < is.length) : -b ≤ is[k] ∧ is[k] ≤ b := h _ (List.getElem_mem hk)
/-! ### texts compared -/
def strEqD : DD := fun x y Q => ∃ i j, x = .str i ∧ y = .str j ∧ Q (.bl (i == j))
theorem ped_eqS {X : Cx} {w : Wd} {a b : Expr} {pos : Pos} {ta tb : TDE} (ha : PEd X w a ta) (hb : PEd X w b tb) : PEd X w (.Compare a [.Eq] [b] pos) (dOp strEqD ta tb) := by
  refine ped_cmp op_eq (nobehind _ (by decide) (by decide)) (fun x y Q Q' q ⟨i, j, a, b, h⟩ => ⟨i, j, a, b, q _ h⟩) ?_ ha hb
  rintro g W H v u x y Q k dx dy ⟨i, j, rfl, rfl, h⟩
  cases dx
  cases dy
  have e : decide (V.str i = V.str j) = (i == j) := by
    rw [Bool.eq_iff_iff]
    simp
  exact ⟨rfl, by rw [e]; exact h.now k (.bl _)⟩
/-! ### loops by what holds ahead of each turn -/
theorem forD_go {gd : TDG} {tb : TDS} {E : EnD} {ds : List Da} (I : Nat → En → Prop) (done : ∀ r, I ds.length r → E.nx r)
    (step : ∀ i d r (nx : En → Prop), ds[i]? = some d → I i r → (∀ r', I (i + 1) r' → nx r') → gd d r fun r1 => tb { E with nx := nx, ct := nx, bk := E.nx } r1) :
    ∀ (es : List Da) (i : Nat) (r : En), ds.drop i = es → I i r → i ≤ ds.length → forD gd tb E es r
  | [], i, r, e, h, hi => by
    have : i = ds.length := by
      have := congrArg List.length e
      rw [List.length_drop, List.length_nil] at this
      omega
    subst this
    exact done r h
  | d :: es, i, r, e, h, hi => by
    have hl : i < ds.length := by
      have := congrArg List.length e
      rw [List.length_drop, List.length_cons] at this
      omega
    have e2 := List.drop_eq_getElem_cons hl
    rw [e] at e2
    injection e2 with e3 e4
    exact step i d r _ (by rw [List.getElem?_eq_getElem hl, e3]) h fun r' hr' => forD_go I done step es (i + 1) r' e4.symm hr' (by omega)
theorem forD_run {gd : TDG} {tb : TDS} {E : EnD} {ds : List Da} (I : Nat → En → Prop) {r : En} (start : I 0 r) (done : ∀ r, I ds.length r → E.nx r)
    (step : ∀ i d r (nx : En → Prop), ds[i]? = some d → I i r → (∀ r', I (i + 1) r' → nx r') → gd d r fun r1 => tb { E with nx := nx, ct := nx, bk := E.nx } r1) : forD gd tb E ds r :=
  forD_go I done step ds 0 r rfl start (Nat.zero_le _)

/-! ### sorted texts -/
/-! ### from nothing -/
theorem lcD_all0 {gd : TDG} {te : TDE} {vs : List Nat} {r : En} {Q : Da → Prop} (F : Da → Da → Prop) (ds : List Da) (hl : ds.length ≤ 16777216)
    (h : ∀ d ∈ ds, ∀ P : Da → Prop, (∀ y, F d y → P y) → gd d (wipeD r vs) fun r2 => te r2 P) (q : ∀ ys, Paired F ds ys → Q (.lst ys)) : lcD gd dYes te vs r Q ds [] :=
  lcD_all F ds [] (by rw [List.length_nil]; omega) h q
theorem lcD_ix0 {gd : TDG} {te : TDE} {vs : List Nat} {r : En} {Q : Da → Prop} (ds res : List Da) (e : res.length = ds.length) (hl : ds.length ≤ 16777216)
    (h : ∀ (k : Nat) (h1 : k < ds.length) (h2 : k < res.length) (P : Da → Prop), P res[k] → gd ds[k] (wipeD r vs) fun r2 => te r2 P) (q : Q (.lst res)) : lcD gd dYes te vs r Q ds [] :=
  lcD_ix ds res [] e (by rw [List.length_nil]; omega) h q
end Pd
/-! The head of a law whose promise is told with the guards (FnG): it is called with nothing tracked but the script. -/
namespace Pd
open PySem PySem.Spec PyProof.Rows L2

theorem ints_vals {ns : List Int} {us : List Value} (h : IntsAre us ns) : Vals (ns.map V.int) us := by
  induction h with
  | nil => exact .nil
  | cons n t _ ih => exact .cons ⟨t, rfl⟩ ih

/-- what the caller wants of the answer -/
abbrev Told (s1 : Shared) : Result → Shared → Prop := fun r s2 => r = .ok (.ret (.bool true)) ∧ OldK s1.heap s2.heap ∧ s2.os = s1.os ∧ AllBare s2.gens

section
variable {P : Program} {wd : World} {K : PySem.W.Frag} {mg mb : Str → Option Value} {k : Nat} {fa a : Addr} {fd : FuncData} {x : Str} {sp : Sp} {s1 : Shared} {us : List Value} {ns : List Int}
end
/-- a def by what the top has written -/
theorem defAt_mk {K : PySem.W.Frag} {mg : Str → Option Value} {h : Heap} {x : Str} {st : Stmt} {ps : List Str} {f : Addr} {oc kV dc pm cd ct : Value} {od an : Option Addr} {sl : Array (Option Value)} (inK : K.In h) (gl : h.Ns mainGlobals mg)
    (a : PySem.W.nsIn K mainGlobals x = some (some (.ref f))) (l : K.lookup f = some ⟨oc, od, .func (PySem.W.fnOf x x (defArgs st) (defBody st) (defScope st) .none kV dc pm an cd ct), sl⟩) (c : PySem.W.codeIn K cd x = true) (k : PySem.W.keepIn K (.ref f) = true)
    (b : ∀ (kV doc pm : Value) (an : Option Addr) (cdv ct : Value) (us : List Value), us.length = ps.length → bindArgs (PySem.W.fnOf x x (defArgs st) (defBody st) (defScope st) .none kV doc pm an cdv ct) ⟨us, []⟩ = pure (ps.zip us)) : DefAt K mg x st ps :=
  ⟨f, _, fun_mk l c k, PySem.W.mg_of inK gl a, (fun_mk l c k).binds b⟩
end Pd
/-! Lists of one's own: hidden while they change; opened for a look. -/
namespace Pd
open PySem PySem.Spec PyProof.Rows L2

/-! ### data in which nothing can change -/
mutual
def noL : Da → Bool
  | .non => true
  | .bl _ => true
  | .int _ => true
  | .str _ => true
  | .tup xs => noLs xs
  | .tpw xs => noLs xs
  | .lst _ => false
  | .dct _ => false
  | .bag => false
  | .raw _ => false
  | .fix _ => true
def noLs : List Da → Bool
  | [] => true
  | x :: xs => noL x && noLs xs
end
theorem noLs_all : ∀ xs : List Da, noLs xs = xs.all noL
  | [] => by rw [noLs]; rfl
  | x :: xs => by rw [noLs, noLs_all xs]; rfl
theorem noL_ints (ts : List Int) : noLs (ts.map .int) = true := by
  rw [noLs_all, List.all_map, List.all_eq_true]
  intro x _
  show noL (.int x) = true
  rw [noL]
section
variable {K : PySem.W.Frag} {g g' : Gd} {H H' : Hp}
theorem sqt_sees {a : Addr} {xs : List V} (e : Sees H H') (h : SqT K H a xs) : SqT K H' a xs := by
  rcases h with (h | ⟨o, h⟩) | h
  · exact .inl (.inl (e _ _ h (fun _ z => by cases z) (fun _ z => by cases z)))
  · exact .inl (.inr ⟨o, e _ _ h (fun _ z => by cases z) (fun _ z => by cases z)⟩)
  · exact .inr h
theorem tups_sees {a : Addr} {xs : List V} (e : Sees H H') (h : TupS K H a xs) : TupS K H' a xs := by
  rcases h with ⟨o, h, n⟩ | h
  · exact .inl ⟨o, e _ _ h (fun _ z => by cases z) (fun _ z => by cases z), n⟩
  · exact .inr h
mutual
theorem Dv.sees (e : Sees H H') : ∀ (d : Da) (v : V), noL d = true → Dv K g H v d → Dv K g' H' v d
  | .non, _, _, h => by cases h; exact .non
  | .bl _, _, _, h => by cases h; exact .bl _
  | .int _, _, _, h => by cases h; exact .int _
  | .str _, _, _, h => by cases h; exact .str _
  | .lst ds, _, n, _ => by rw [noL] at n; cases n
  | .tup ds, _, n, h => by
    rw [noL] at n
    cases h with
    | tup h1 h2 => exact .tup (tups_sees e h1) (DvAll.sees e ds _ n h2)
  | .tpw ds, _, n, h => by
    rw [noL] at n
    cases h with
    | tpw h1 h2 => exact .tpw (sqt_sees e h1) (DvAll.sees e ds _ n h2)
  | .dct ds, _, n, _ => by rw [noL] at n; cases n
  | .bag, _, n, _ => by rw [noL] at n; cases n
  | .raw _, _, n, _ => by rw [noL] at n; cases n
  | .fix _, _, _, h => by
    cases h with
    | fix q => exact .fix fun H2 s => q H2 (Sees.trans e s)
theorem DvAll.sees (e : Sees H H') : ∀ (ds : List Da) (vs : List V), noLs ds = true → DvAll K g H vs ds → DvAll K g' H' vs ds
  | [], _, _, h => by cases h; exact .nil
  | d :: ds, _, n, h => by
    rw [noLs, Bool.and_eq_true] at n
    cases h with
    | cons h1 h2 => exact .cons (Dv.sees e d _ n.1 h1) (DvAll.sees e ds _ n.2 h2)
end
end

/-! ### a look at one's own -/
def opS : Sl → Sl
  | .no => .no
  | .dat d => .dat d
  | .own ds => .dat (.lst ds)
  | .reg ds => .dat (.lst ds)
  | .od ds => .dat (.dct ds)
def openE (r : En) : En := r.map opS
/-- a slot with something of one's own -/
def ownS (r : En) (i : Nat) : Prop := (∃ ds, r[i]? = some (.own ds)) ∨ (∃ ds, r[i]? = some (.reg ds)) ∨ ∃ ds, r[i]? = some (.od ds)
open Classical in
/-- what stays hidden -/
noncomputable def shut (W : Addr → Bool) (own : Ow) (r : En) : Addr → Bool := fun a => W a && !decide (∃ i, own i a ∧ ownS r i)
section
variable {K : PySem.W.Frag} {w : Wd} {W : Addr → Bool} {own : Ow} {r : En} {σ : L2.St} {H H1 : Hp}
theorem shut_le {a : Addr} (h : shut W own r a = true) : W a = true := by
  unfold shut at h
  rw [Bool.and_eq_true] at h
  exact h.1
theorem shut_own {a : Addr} {i : Nat} (h1 : own i a) (h2 : ownS r i) : shut W own r a = false := by
  unfold shut
  simp only [Bool.and_eq_false_iff, Bool.not_eq_false', decide_eq_true_eq]
  exact .inr ⟨i, h1, h2⟩
theorem shut_not {a : Addr} (h : W a = true) (h2 : shut W own r a = false) : ∃ i, own i a ∧ ownS r i := by
  unfold shut at h2
  rw [h, Bool.true_and, Bool.not_eq_false'] at h2
  simpa using h2
theorem Stt.shutG (S : Stt K w W own r σ H) {a : Addr} (h : Bd w.g a) : shut W own r a = true := by
  cases e : shut W own r a with
  | true => rfl
  | false =>
    obtain ⟨i, q, _⟩ := shut_not (S.ok.gW a h) e
    exact absurd h (S.oW i a q).2.2
theorem Stt.opened (S : Stt K w W own r σ H) : Stt K ⟨H, w.g, shut W own r⟩ (shut W own r) (fun _ _ => False) (openE r) σ H := by
  refine ⟨S.ok.less (fun b hb => shut_le hb) fun a ha => S.shutG ha, Ext.refl, fun _ h => h, fun a ha => S.shutG ha, (fun _ h => .inl h), (fun i a h => h.elim), (fun i j a h => h.elim), ?_, fun i d h n => ?_⟩
  · unfold openE
    rw [List.length_map]
    exact S.len
  · unfold openE at h
    rw [List.getElem?_map] at h
    cases e : r[i]? with
    | none => rw [e] at h; cases h
    | some d0 =>
      rw [e] at h
      have h' : opS d0 = d := Option.some.inj h
      subst h'
      have n0 : d0 ≠ .no := fun z => n (by rw [z]; rfl)
      obtain ⟨v, h1, h2⟩ := S.sl i d0 e n0
      refine ⟨v, h1, ?_⟩
      cases d0 with
      | no => exact absurd rfl n0
      | dat d => exact Dv.mono (hid_le fun b hb => shut_le hb) _ _ h2
      | own ds =>
        obtain ⟨a, xs, q1, rfl, q3, q4⟩ := h2
        exact .lst (by rw [hid_no (shut_own q1.1 (.inl ⟨ds, e⟩))]; exact q3) (DvAll.mono (hid_le fun b hb => shut_le hb) _ _ q4)
      | reg ds =>
        obtain ⟨a, xs, q1, rfl, q3, q4⟩ := h2
        refine .lst (by rw [hid_no (shut_own q1 (.inr (.inl ⟨ds, e⟩)))]; exact q3) (DvAll.mono (fun b o z => ?_) _ _ q4)
        have z := cutAt_le b o z
        by_cases q : own i b
        · rw [vis_own q] at z
          rw [hid_no (shut_own q (.inr (.inl ⟨ds, e⟩)))]
          exact z
        · rw [vis_not q] at z
          exact hid_le (fun b hb => shut_le hb) _ _ (nom_some z).1
      | od ds =>
        obtain ⟨a, xs, q1, rfl, q3, q4⟩ := h2
        exact .dct (by rw [hid_no (shut_own q1.1 (.inr (.inr ⟨ds, e⟩)))]; exact q3) (KvAll.mono (hid_le fun b hb => shut_le hb) _ _ q4)
/-- hidden again -/
theorem Stt.shutOk (S : Stt K w W own r σ H) (e : Ext w.g H H1) (k : OkW K w.g (shut W own r) H1) : OkW K w.g W H1 := S.ok.back e k.bag
theorem Stt.seesBack (S : Stt K w W own r σ H) (e : Ext w.g H H1) : Sees (hid (shut W own r) H1) (hid W H1) := fun a o h n1 n2 => by
  obtain ⟨h1, h2⟩ := hid_some h
  cases q : W a with
  | false => rw [hid_no q]; exact h2
  | true =>
    obtain ⟨i, q1, _⟩ := shut_not q h1
    rcases (S.inj i i a q1 q1).2 with ⟨xs, p3⟩ | ⟨xs, p3⟩
    · have := e a _ (S.oW i a q1).2.2 p3
      rw [h2] at this
      exact absurd (Option.some.inj this) (n1 xs)
    · have := e a _ (S.oW i a q1).2.2 p3
      rw [h2] at this
      exact absurd (Option.some.inj this) (n2 xs)
end
section
variable {X : Cx} {w : Wd} {e : Expr}
theorem ptd_open {t : TDT} (h : ∀ w, PTd X w e t) : PTd X w e (fun r Q => t (openE r) Q) := by
  refine ⟨⟨fun pins s σ H Q I q => ?_⟩, fun r Q Q' q z => (h w).mo _ _ _ q z⟩
  obtain ⟨W, own, r, S, z⟩ := q
  refine (h ⟨H, w.g, shut W own r⟩).pt.run pins s σ H Q I ⟨shut W own r, fun _ _ => False, openE r, S.opened, (h w).mo _ _ _ (fun b q H1 e1 k1 => q H1 e1 (S.shutOk e1 k1)) z⟩
theorem ped_open {t : TDE} (h : ∀ w, PEd X w e t) : PEd X w e (fun r Q => t (openE r) fun d => noL d = true ∧ Q d) := by
  refine ⟨⟨fun pins s σ H Q I q => ?_⟩, fun r Q Q' q z => (h w).mo _ _ _ (fun d p => ⟨p.1, q d p.2⟩) z⟩
  obtain ⟨W, own, r, S, z⟩ := q
  refine (h ⟨H, w.g, shut W own r⟩).pe.run pins s σ H Q I ⟨shut W own r, fun _ _ => False, openE r, S.opened, (h w).mo _ _ _ (fun d q v H1 e1 k1 d1 => q.2 v H1 e1 (S.shutOk e1 k1) (Dv.sees (S.seesBack e1) _ _ q.1 d1)) z⟩
end
end Pd
/-! One's own lists: made, lengthened, emptied. -/
namespace Pd
open PySem PySem.Spec PyProof.Rows L2

section
variable {K : PySem.W.Frag} {w : Wd} {W : Addr → Bool} {own : Ow} {r : En} {σ : L2.St} {H H1 : Hp}
theorem hid_upd {W : Addr → Bool} {H : Hp} {a : Addr} {o : HO} (h : W a = true) : hid W (upd H a o) = hid W H := by
  funext b
  unfold hid
  by_cases z : b = a
  · subst z
    rw [if_pos h, if_pos h]
  · rw [upd_ne z]
theorem nothing {H H0 : Hp} {g : Gd} {p : Addr} (np : H p = none) (e : Ext g H0 H) (ge : ¬ Bd g p) : H0 p = none := by
  cases q : H0 p with
  | none => rfl
  | some o =>
    have := e p o ge q
    rw [np] at this
    cases this
/-- what stands at a place of one's own changes: a list stays a list, a dict a dict -/
theorem Stt.putOwn (S : Stt K w W own r σ H) {i : Nat} {a : Addr} {o : HO} {s : Sl} (h1 : own i a) (mo : Mut (upd H a o) a) (ns : s ≠ .no → ∃ v, σ[i]? = some (some v) ∧ SlD K w.g W own (upd H a o) i v s) :
    Stt K w W own (r.set i s) σ (upd H a o) ∧ Grow w.g W H W (upd H a o) := by
  obtain ⟨hW, h0, hg⟩ := S.oW i a h1
  have eq := hid_upd (H := H) (o := o) hW
  refine ⟨⟨⟨S.ok.bag.upd hg hW (S.inj i i a h1 h1).2.nx, S.ok.gW, fun b hb => ?_⟩, ⟨fun b o n hb => ?_, fun b xs hb hx => ?_⟩, S.w0, S.g0, S.wN, S.oW, fun j k b q1 q2 => ⟨(S.inj j k b q1 q2).1, ?_⟩, ?_, fun j d h n => ?_⟩, fun b o n wb hb => ?_, fun b hb => ?_, fun b hb => .inl hb⟩
  · by_cases z : b = a
    · exact ⟨_, by rw [z]; exact upd_same⟩
    · obtain ⟨o, q⟩ := S.ok.al b hb
      exact ⟨o, by rw [upd_ne z]; exact q⟩
  · have ne : b ≠ a := fun z => by rw [z, h0] at hb; cases hb
    rw [upd_ne ne]
    exact S.base b o n hb
  · have ne : b ≠ a := fun z => hg (.inl (z ▸ hb))
    rw [upd_ne ne]
    exact S.base.last b xs hb hx
  · by_cases z : b = a
    · rw [z]; exact mo
    · exact (S.inj j k b q1 q2).2.up fun o q => by rw [upd_ne z]; exact q
  · rw [List.length_set]
    exact S.len
  · by_cases hj : j = i
    · subst hj
      have hl : j < r.length := by
        have := (List.getElem?_eq_some_iff.mp h).1
        rwa [List.length_set] at this
      rw [List.getElem?_set_self hl] at h
      cases h
      exact ns n
    · rw [List.getElem?_set_ne (Ne.symm hj)] at h
      obtain ⟨v, q1, q2⟩ := S.sl j d h n
      refine ⟨v, q1, ?_⟩
      cases d with
      | no => exact absurd rfl n
      | dat d =>
        show Dv K w.g (hid W (upd H a o)) v d
        rw [eq]
        exact q2
      | own fs =>
        obtain ⟨b, xs, p1, p2, p3, p4⟩ := q2
        have ne : b ≠ a := fun z => hj (S.inj j i a (z ▸ p1.1) h1).1
        exact ⟨b, xs, p1, p2, by rw [upd_ne ne]; exact p3, by rw [eq]; exact p4⟩
      | reg ds =>
        obtain ⟨b, xs, p1, p2, p3, p4⟩ := q2
        have off : ∀ c, own j c → c ≠ a := fun c q z => hj (S.inj j i a (z ▸ q) h1).1
        refine ⟨b, xs, p1, p2, by rw [upd_ne (off b p1)]; exact p3, DvAll.mono (cutAt_sm (vis_up (fun c o q z => ⟨q, ?_⟩) (by rw [eq]; exact fun _ _ z => z))) _ _ p4⟩
        rw [upd_ne (off c q)]
        exact z
      | od fs =>
        obtain ⟨b, xs, p1, p2, p3, p4⟩ := q2
        have ne : b ≠ a := fun z => hj (S.inj j i a (z ▸ p1.1) h1).1
        exact ⟨b, xs, p1, p2, by rw [upd_ne ne]; exact p3, by rw [eq]; exact p4⟩
  · have ne : b ≠ a := fun z => by rw [z, hW] at wb; cases wb
    rw [upd_ne ne]
    exact hb
  · by_cases z : b = a
    · rw [z, upd_same]
      intro q
      cases q
    · rw [upd_ne z]
      exact hb
/-- one's own list changes -/
theorem Stt.setOwn (S : Stt K w W own r σ H) {i : Nat} {a : Addr} {ds es : List Da} {ys : List V} (h1 : OnlyOwn own i a) (h2 : r[i]? = some (.own ds)) (dv : DvAll K w.g (hid W H) ys es) :
    Stt K w W own (r.set i (.own es)) σ (upd H a (.lst ys)) ∧ Grow w.g W H W (upd H a (.lst ys)) := by
  refine S.putOwn h1.1 (.inl ⟨_, upd_same⟩) fun _ => ?_
  obtain ⟨v, q1, a', xs, p1, p2, _⟩ := S.sl i _ h2 (fun z => by cases z)
  have ea : a' = a := h1.2 a' p1.1
  rw [ea] at p2
  exact ⟨v, q1, a, ys, h1, p2, upd_same, by rw [hid_upd (S.oW i a h1.1).1]; exact dv⟩
/-- a hidden list or dict that is nobody's becomes that of a slot; what the slot owned is let go -/
theorem Stt.takeOwn (S : Stt K w W own r σ H) (i : Nat) {p : Addr} {xs : List V} {ds : List Da} (Wp : W p = true) (h0 : w.H0 p = none) (ge : ¬ Bd w.g p) (oN : ∀ j, ¬ own j p) (hp : H p = some (.lst xs)) (dv : DvAll K w.g (hid W H) xs ds) :
    Stt K w W (fun j a => (j = i ∧ a = p) ∨ (j ≠ i ∧ own j a)) (r.set i (.own ds)) (σ.set i (some (.ref p))) H := by
  refine ⟨S.ok, S.base, S.w0, S.g0, S.wN, fun j a h => ?_, fun j k a q1 q2 => ?_, by rw [List.length_set, List.length_set]; exact S.len, fun j d h n => ?_⟩
  · rcases h with ⟨_, rfl⟩ | h
    · exact ⟨Wp, h0, ge⟩
    · exact S.oW j a h.2
  · rcases q1 with ⟨rfl, rfl⟩ | q1
    · rcases q2 with ⟨rfl, _⟩ | q2
      · exact ⟨rfl, .inl ⟨_, hp⟩⟩
      · exact absurd q2.2 (oN k)
    · rcases q2 with ⟨rfl, rfl⟩ | q2
      · exact absurd q1.2 (oN j)
      · exact S.inj j k a q1.2 q2.2
  · by_cases hj : j = i
    · subst hj
      have hl : j < r.length := by
        have := (List.getElem?_eq_some_iff.mp h).1
        rwa [List.length_set] at this
      rw [List.getElem?_set_self hl] at h
      cases h
      exact ⟨.ref p, by rw [List.getElem?_set_self (by rw [← S.len]; exact hl)], p, xs, ⟨.inl ⟨rfl, rfl⟩, fun b hb => hb.elim (fun z => z.2) fun z => absurd rfl z.1⟩, rfl, hp, dv⟩
    · rw [List.getElem?_set_ne (Ne.symm hj)] at h
      obtain ⟨v, q1, q2⟩ := S.sl j d h n
      refine ⟨v, by rw [List.getElem?_set_ne (Ne.symm hj)]; exact q1, ?_⟩
      cases d with
      | no => exact absurd rfl n
      | dat d => exact q2
      | own fs =>
        obtain ⟨b, zs, p1, p2⟩ := q2
        exact ⟨b, zs, ⟨.inr ⟨hj, p1.1⟩, fun c hc => hc.elim (fun z => absurd z.1 hj) fun z => p1.2 c z.2⟩, p2⟩
      | reg ds =>
        obtain ⟨b, zs, p1, p2, p3, p4⟩ := q2
        exact ⟨b, zs, .inr ⟨hj, p1⟩, p2, p3, DvAll.mono (cutAt_sm (vis_up (fun a o q z => ⟨.inr ⟨hj, q⟩, z⟩) fun _ _ z => z)) _ _ p4⟩
      | od fs =>
        obtain ⟨b, zs, p1, p2⟩ := q2
        exact ⟨b, zs, ⟨.inr ⟨hj, p1.1⟩, fun c hc => hc.elim (fun z => absurd z.1 hj) fun z => p1.2 c z.2⟩, p2⟩
/-- a new thing at p is hidden -/
theorem Stt.hideO (S : Stt K w W own r σ H) {p : Addr} {o : HO} (np : H p = none) : Stt K w (Pd.hideD W p) own r σ (upd H p o) ∧ Grow w.g W H (Pd.hideD W p) (upd H p o) ∧ Sm (hid W H) (hid (Pd.hideD W p) (upd H p o)) ∧ ¬ Bd w.g p ∧ w.H0 p = none ∧ ∀ j, ¬ own j p := by
  have ge : ¬ Bd w.g p := fun z => by
    obtain ⟨o, q⟩ := S.ok.al p (S.ok.gW p z)
    rw [np] at q
    cases q
  have sm : Sm (hid W H) (hid (Pd.hideD W p) (upd H p o)) := fun b o q => by
    obtain ⟨q1, q2⟩ := hid_some q
    have ne : b ≠ p := ne_of_none q2 np
    rw [hid_no (by rw [hideD_ne ne]; exact q1), upd_ne ne]
    exact q2
  have oN : ∀ j, ¬ own j p := fun j z => by
    obtain ⟨o, q⟩ := S.ok.al p (S.oW j p z).1
    rw [np] at q
    cases q
  have old : ∀ j a u, own j a → H a = some u → upd H p o a = some u := fun j a u q z => by rw [upd_ne (ne_of_none z np)]; exact z
  refine ⟨⟨⟨S.ok.bag.lay ge np, fun b hb => hideD_le (S.ok.gW b hb), fun b hb => ?_⟩, S.base.trans (Ext.of (sm_upd np)), fun b hb => hideD_le (S.w0 b hb), S.g0, S.wN' np, fun j a h => ?_, fun j k a q1 q2 => ⟨(S.inj j k a q1 q2).1, (S.inj j k a q1 q2).2.up fun u z => old j a u q1 z⟩, S.len, fun j d h n => ?_⟩, ⟨fun b o n wb hb => ?_, fun b hb => ?_, fun b hb => ?_⟩, sm, ge, nothing np S.base ge, oN⟩
  · by_cases z : b = p
    · exact ⟨_, by rw [z]; exact upd_same⟩
    · rw [hideD_ne z] at hb
      obtain ⟨o, q⟩ := S.ok.al b hb
      exact ⟨o, by rw [upd_ne z]; exact q⟩
  · obtain ⟨q1, q2, q3⟩ := S.oW j a h
    exact ⟨hideD_le q1, q2, q3⟩
  · obtain ⟨v, q1, q2⟩ := S.sl j d h n
    refine ⟨v, q1, ?_⟩
    cases d with
    | no => exact absurd rfl n
    | dat d => exact Dv.mono sm _ _ q2
    | own fs =>
      obtain ⟨b, zs, p1, p2, p3, p4⟩ := q2
      exact ⟨b, zs, p1, p2, old j b _ p1.1 p3, DvAll.mono sm _ _ p4⟩
    | reg ds =>
      obtain ⟨b, zs, p1, p2, p3, p4⟩ := q2
      exact ⟨b, zs, p1, p2, old j b _ p1 p3, DvAll.mono (cutAt_sm (vis_up (fun a u q z => ⟨q, old j a u q z⟩) sm)) _ _ p4⟩
    | od fs =>
      obtain ⟨b, zs, p1, p2, p3, p4⟩ := q2
      exact ⟨b, zs, p1, p2, old j b _ p1.1 p3, KvAll.mono sm _ _ p4⟩
  · rw [upd_ne (ne_of_none hb np)]
    exact hb
  · have ne : b ≠ p := fun z => hb (by rw [z]; exact np)
    rw [upd_ne ne]
    exact hb
  · by_cases z : b = p
    · exact .inr (by rw [z]; exact np)
    · rw [hideD_ne z] at hb
      exact .inl hb
/-- a new list becomes one's own -/
theorem Stt.newOwn (S : Stt K w W own r σ H) (i : Nat) {p : Addr} {xs : List V} {ds : List Da} (np : H p = none) (dv : DvAll K w.g (hid W H) xs ds) :
    (∃ own', Stt K w (Pd.hideD W p) own' (r.set i (.own ds)) (σ.set i (some (.ref p))) (upd H p (.lst xs))) ∧ Grow w.g W H (Pd.hideD W p) (upd H p (.lst xs)) := by
  obtain ⟨S1, gr, sm, ge, h0, oN⟩ := S.hideO (o := .lst xs) np
  exact ⟨⟨_, S1.takeOwn i hideD_at h0 ge oN upd_same (DvAll.mono sm _ _ dv)⟩, gr⟩
end

section
variable {X : Cx} {w : Wd} {e : Expr} {es : List Expr} {te : TDE}
/-- an expression whose value is a new list -/
structure PFd (X : Cx) (w : Wd) (e : Expr) (t : TDA) : Prop where
  pe : PE X e (fun σ H Q => ∃ W own r, Stt X.K w W own r σ H ∧ t r fun ds => ∀ p xs H1, Ext w.g H H1 → OkW X.K w.g W H1 → H1 p = none → DvAll X.K w.g (hid W H1) xs ds → Q (.ref p) (upd H1 p (.lst xs)))
  mo : ∀ r Q Q', (∀ ds, Q ds → Q' ds) → t r Q → t r Q'
theorem pfd_lst {t : TDA} {pos : Pos} (h : PAd X w es t) : PFd X w (.List es pos) (fun r Q => t r fun ds => ds.length ≤ sizeLine ∧ Q ds) := by
  refine ⟨weE (pe_lst h.pa) ?_, fun r Q Q' q z => h.mo _ _ _ (fun ds z => ⟨z.1, q _ z.2⟩) z⟩
  rintro σ H Q ⟨W, own, r, S, z⟩
  refine goA h S z fun xs vs H1 e1 k1 d1 z => ⟨by rw [d1.len]; exact z.1, fun p np => z.2 p vs H1 e1 k1 np d1⟩
def dSetF (t : TDA) (i : Nat) : TDS := fun E r => t r fun ds => E.nx (r.set i (.own ds))
theorem psd_setF {i : Nat} {x : Str} {pos pos' : Pos} {t : TDA} (he : PFd X w e t) (hN : X.N.Nodup) (hi : X.N[i]? = some x := by rfl) (hx : Loc X.env.scope x := by first | exact .inl rfl | exact .inr rfl) (hs : swapsWith e (some (.Name x pos')) pos.line X.env = pure false := by rfl)
    (hf : X.fn x = true ∨ X.env.scope.names.lookup x = some .local := by first | exact .inl rfl | exact .inr rfl) : PSd X w (.Assign [.Name x pos'] e pos) (dSetF t i) := by
  refine ⟨weS (ps_set hN hi hx he.pe hs hf) ?_, fun E E' r l h => he.mo _ _ _ (fun d => l.nx _) h⟩
  rintro D σ H ⟨W, own, r, S, h⟩
  refine ⟨W, own, r, S, he.mo _ _ _ (fun ds z p xs H1 e1 k1 np dv => ?_) h⟩
  have S1 := S.ext e1 k1
  obtain ⟨⟨own', S'⟩, gr⟩ := S1.newOwn i np dv
  exact z _ own' _ _ ((Grow.of k1 e1).trans gr) S'
def dApp (i : Nat) (te : TDE) : TDS := fun E r => ∃ ds, r[i]? = some (.own ds) ∧ te r fun d => ds.length < sizeLine ∧ E.nx (r.set i (.own (ds ++ [d])))
theorem psd_app {i : Nat} {x : Str} {p apos cpos pos : Pos} (he : PEd X w e te) (hN : X.N[i]? = some x := by rfl) (hv : Vis X.env.scope x := by first | exact Or.inl rfl | exact Or.inr (Or.inl rfl) | exact Or.inr (Or.inr rfl)) (hd : (x == ("__debug__" : Str)) = false := by decide) (hcd : (x == ("__classdict__" : Str)) = false := by decide)
    (hbase : attributeBase (.Name x p) "append" X.env (eval (.Name x p) X.env) = eval (.Name x p) X.env := by rfl)
    (hfew : ((backTo cpos (starEach [e] X.env)).all (fun x => !x.1) && (backToKw cpos (keywordEach [] X.env)).all (fun x => x.1.isSome) && decide (([e] : List Expr).length + ([] : List Keyword).length + (if ([] : List Keyword).isEmpty then 0 else 1) < 30)) = true := by rfl)
    (hline : (apos.endLine == cpos.line) = true := by rfl) (hst : starEach [e] X.env = (false, eval e X.env) :: starEach [] X.env := by rfl) (hpl : (backTo cpos (starEach [] X.env)).any (·.1) = false := by rfl)
    (hs : swapsWith (.Call (.Attribute (.Name x p) "append" apos) [e] [] cpos) none pos.line X.env = pure false := by rfl) :
    PSd X w (.Expr (.Call (.Attribute (.Name x p) "append" apos) [e] [] cpos) pos) (dApp i te) := by
  refine ⟨weS (ps_expr (pe_bm PySem.F.plainAttrs_list PySem.F.slot_list_append PySem.F.type_list_append mt_append (pv i hN hv hd hcd) (pa_cons he.pe pa_nil hst) hbase hfew hline hst hpl) hs) ?_, fun E E' r l ⟨ds, a, h⟩ => ⟨ds, a, he.mo _ _ _ (fun d z => ⟨z.1, l.nx _ z.2⟩) h⟩⟩
  rintro D σ H ⟨W, own, r, S, ds, hr, h⟩
  obtain ⟨v, hv, a, xs, o1, rfl, o3, o4⟩ := S.sl i _ hr (fun z => by cases z)
  refine ⟨.ref a, hv, .inl ⟨rfl, _, SqL.of o3⟩, ?_⟩
  refine go1 he S h fun d v H1 e1 k1 d1 z => ?_
  have S1 := S.ext e1 k1
  obtain ⟨v', hv', a', xs', q1, q2, q3, q4⟩ := S1.sl i _ hr (fun z => by cases z)
  cases o1.2 _ q1.1
  obtain ⟨S', gr⟩ := S1.setOwn (ys := xs' ++ [v]) (es := ds ++ [d]) o1 hr (q4.app (.cons d1 .nil))
  exact ⟨a, xs', v, rfl, rfl, q3, by rw [q4.len]; exact z.1, z.2 W own σ _ ((Grow.of k1 e1).trans gr) S'⟩
end
end Pd
namespace Pd
open PySem PySem.Spec PyProof.Rows L2 Tx

/-! ### sets of texts as values -/
section
variable {X : Cx}
end
end Pd
/-! isinstance, chains, in, names of the module, sets of texts. -/
namespace Pd
open PySem PySem.Spec PyProof.Rows L2 Tx

/-! ### isinstance -/
def tyD : Da → Option String
  | .non => some "NoneType"
  | .bl _ => some "bool"
  | .int _ => some "int"
  | .str _ => some "str"
  | .lst _ => some "list"
  | .tup _ => some "tuple"
  | .tpw _ => some "tuple"
  | .dct _ => some "dict"
  | .bag => none
  | .raw _ => none
  | .fix _ => none
theorem tyD_x {K : PySem.W.Frag} {g : Gd} {W : Addr → Bool} {H : Hp} {v : V} {d : Da} {t : String} (h : Dv K g (hid W H) v d) (e : tyD d = some t) : TyX K H v (.type t) := by
  cases d with
  | non => cases h; cases e; exact .base .non
  | bl b => cases h; cases e; exact .base (.bl _)
  | int i => cases h; cases e; exact .base (.int _)
  | str x => cases h; cases e; exact .base (.str _)
  | lst ds =>
    cases h with
    | lst h1 _ => cases e; exact .base (.lst (hid_some h1).2)
  | tup ds =>
    cases h with
    | tup h1 _ =>
      cases e
      rcases h1 with ⟨o, h1, _⟩ | ⟨o, its, n, h1, h2, _⟩
      · exact .fTuple (hid_some h1).2
      · exact .kTuple h1 h2
  | tpw ds =>
    cases h with
    | tpw h1 _ =>
      cases e
      rcases h1 with (h1 | ⟨o, h1⟩) | ⟨o, its, n, h1, h2, _⟩
      · exact .base (.tup (hid_some h1).2)
      · exact .fTuple (hid_some h1).2
      · exact .kTuple h1 h2
  | dct ds =>
    cases h with
    | dct h1 _ => cases e; exact .base (.dK (hid_some h1).2)
  | bag => cases e
  | raw v => cases e
  | fix v => cases e
section
variable {X : Cx} {w : Wd} {a b c e : Expr} {es : List Expr} {ta tb tc te : TDE} {pos : Pos}
def dIsi (T : String) (te : TDE) : TDE := fun r Q => te r fun x => ∃ t y, tyD x = some t ∧ kitB t T = some y ∧ Q (.bl y)
theorem ped_isi {T : String} {x : Str} {p p2 : Pos} (hm : X.mg "isinstance" = none) (he : PEd X w e te) (hx : X.mg x = none) (hv : bootBuiltins x = some (.type T)) (hn : x ≠ "__name__" := by decide) (hd : (x == ("__debug__" : Str)) = false := by decide) (hg : Gl X "isinstance" := by rfl) (hgx : Gl X x := by rfl)
    (st : starEach [e, .Name x p2] X.env = (false, eval e X.env) :: starEach [.Name x p2] X.env := by rfl) (st2 : starEach [.Name x p2] X.env = (false, eval (.Name x p2) X.env) :: starEach [] X.env := by rfl) (hpl : (backTo pos (starEach [.Name x p2] X.env)).any (·.1) = false := by rfl) :
    PEd X w (.Call (.Name "isinstance" p) [e, .Name x p2] [] pos) (dIsi T te) := by
  refine ⟨weE (pe_callB call_isi hg hm (by decide +kernel) (pa_cons he.pe (pa_cons (pe_bltn (v := .ty T) hgx hx hv rfl hn hd) pa_nil st2) st) (by decide) (by decide) (by exact st) (by exact hpl)) ?_, fun r Q Q' q h => he.mo _ _ _ (fun d ⟨t, y, h1, h2, h3⟩ => ⟨t, y, h1, h2, q _ h3⟩) h⟩
  rintro σ H Q ⟨W, own, r, S, z⟩
  refine go1 he S z fun d v H1 e1 k1 d1 ⟨t, y, h1, h2, h3⟩ => ?_
  exact ⟨v, .ty T, .type t, .type T, y, rfl, .ty T, tyD_x d1 h1, kit_ty h2, h3 (.bl y) H1 e1 k1 (.bl y)⟩

/-! ### chains -/
/-! ### in -/
/-! ### names of the module -/
/-! ### sets of texts -/
end
end Pd
/-! while; own lists emptied, joined. -/
namespace Pd
open PySem PySem.Spec PyProof.Rows L2
section
variable {X : Cx} {w : Wd} {a b c e : Expr} {es : List Expr} {ta tb te : TDE} {tt : TDT} {pos : Pos}
/-- ahead of each test: I n r, n falls -/
def dWhile (tt : TDT) (t : TDS) : TDS := fun E r => ∃ I : Nat → En → Prop, (∃ n, I n r) ∧ ∀ n r, I n r → tt r fun b => if b = true then ∀ nx : En → Prop, (∀ r', (∃ m, m < n ∧ I m r') → nx r') → t { E with nx := nx, ct := nx, bk := E.nx } r else E.nx r
theorem psd_while {body : List Stmt} {t : TDS} (hc : PTd X w c tt) (hb : PSsd X w body t) (hp : PassesOwn (model X.prog X.w) X.A X.env X.xe := by exact PassesOwn.never) : PSd X w (.While c body [] pos) (dWhile tt t) := by
  refine ⟨weS (ps_while hp hc.pt hb.ps) ?_, fun E E' r l ⟨I, h0, h⟩ => ⟨I, h0, fun n r hI => hc.mo _ _ _ (fun b => ite_mo (fun z nx hnx => hb.mo { E with nx := nx, ct := nx, bk := E.nx } { E' with nx := nx, ct := nx, bk := E'.nx } r ⟨fun _ q => q, l.rt, l.nx, fun _ q => q⟩ (z nx hnx)) (l.nx r)) (h n r hI)⟩⟩
  rintro E σ H ⟨W, own, r, S, I, ⟨n0, h0⟩, h⟩
  refine ⟨fun n σ1 H1 => ∃ W1 own1 r1, Grow w.g W H W1 H1 ∧ Stt X.K w W1 own1 r1 σ1 H1 ∧ I n r1, ⟨n0, W, own, r, .refl, S, h0⟩, ?_⟩
  rintro n σ1 H1 ⟨W1, own1, r1, g1, S1, i1⟩
  refine ⟨W1, own1, r1, S1, hc.mo _ _ _ (fun b z H2 e2 k2 => ?_) (h n r1 i1)⟩
  have g2 : Grow w.g W H W1 H2 := g1.trans (Grow.of k2 e2)
  have S2 := S1.ext e2 k2
  refine ite_mo (fun z => ?_) (fun z => z W1 own1 σ1 H2 g2 S2) z
  refine ⟨fun σ3 H3 => ∃ W3 own3 r3, Grow w.g W H W3 H3 ∧ Stt X.K w W3 own3 r3 σ3 H3 ∧ ∃ m, m < n ∧ I m r3, fun σ3 H3 ⟨W3, own3, r3, g3, S3, m, hm, i3⟩ => ⟨m, hm, W3, own3, r3, g3, S3, i3⟩, ?_⟩
  refine ⟨W1, own1, r1, S2, hb.mo { endD X.K w W H E with nx := fun r' => ∃ m, m < n ∧ I m r', ct := fun r' => ∃ m, m < n ∧ I m r', bk := (endD X.K w W H E).nx } _ _ ⟨fun r4 y W4 o4 σ4 H4 g4 S4 => ?_, fun d y => y, fun r4 y W4 o4 σ4 H4 g4 S4 => ?_, fun r4 y W4 o4 σ4 H4 g4 S4 => ?_⟩ (z _ fun r' y => y)⟩
  · exact ⟨W4, o4, r4, g2.trans g4, S4, y⟩
  · exact y W4 o4 σ4 H4 (g2.trans g4) S4
  · exact ⟨W4, o4, r4, g2.trans g4, S4, y⟩
theorem peU (h : ∀ w, PEd X w e te) : PE X e (fun σ H Q => ∃ w, liE X.K w te σ H Q) := ⟨fun pins s σ H Q I ⟨w, q⟩ => (h w).pe.run pins s σ H Q I q⟩
/-- y + e of lists, one's own among them: a new list of what cannot change -/
theorem pfd_cat (ha : ∀ w, PEd X w a ta) (hb : ∀ w, PEd X w b tb) : PFd X w (.BinOp a .Add b pos) (fun r Q => ta (openE r) fun x => tb (openE r) fun y => ∃ xs ys, x = .lst xs ∧ y = .lst ys ∧ xs.length + ys.length ≤ sizeLine ∧ noLs (xs ++ ys) = true ∧ Q (xs ++ ys)) := by
  refine ⟨weE (pe_op op_cat (peU ha) (peU hb)) ?_, fun r Q Q' q h => (ha w).mo _ _ _ (fun x => (hb w).mo _ _ _ fun y ⟨xs, ys, h1, h2, h3, h4, h5⟩ => ⟨xs, ys, h1, h2, h3, h4, q _ h5⟩) h⟩
  rintro σ H Q ⟨W, own, r, S, z⟩
  refine ⟨⟨H, w.g, shut W own r⟩, shut W own r, fun _ _ => False, openE r, S.opened, (ha w).mo _ _ _ (fun x z v H1 e1 k1 d1 => ?_) z⟩
  refine ⟨⟨H, w.g, shut W own r⟩, shut W own r, fun _ _ => False, openE r, S.opened.ext e1 k1, (hb w).mo _ _ _ (fun y z u H2 e2 k2 d2 => ?_) z⟩
  obtain ⟨xs, ys, rfl, rfl, hl, hn, q⟩ := z
  have d1' := Dv.mono (e2.hid k1.gW) _ _ d1
  cases d1' with
  | @lst l us _ a1 a2 =>
    cases d2 with
    | @lst m zs _ b1 b2 =>
      refine ⟨l, m, us, zs, rfl, rfl, (hid_some a1).2, (hid_some b1).2, by rw [a2.len, b2.len]; exact hl, fun p np => ?_⟩
      have e : Ext w.g H H2 := e1.trans e2
      exact q p (us ++ zs) H2 e (S.shutOk e k2) np (DvAll.sees (S.seesBack e) _ _ hn (a2.app b2))
end
/-! ### while by a measure -/
end Pd
namespace Pd
open PySem PySem.Spec PyProof.Rows L2 Tx
/-! ### sorted of a tuple of texts -/
section
variable {X : Cx} {w : Wd} {e : Expr} {te : TDE} {pos : Pos}
end
end Pd
/-! A tuple turned about: t[::-1]. -/
namespace Pd
open PySem PySem.Spec PyProof.Rows L2
section
variable {P : Program} {wd : World} {A : Around} {E : Value → Shared → Prop} {s : Shared}
end
section
variable {X : Cx} {w : Wd} {e : Expr}
end
end Pd
/-! repr of data that hold dicts (and no lists); displays of dicts. -/
namespace Pd
open PySem PySem.Spec PyProof.Rows L2
def keyP : Key → PyData
  | .inl i => .int i
  | .inr x => .str x
mutual
def toR : Da → PyData
  | .non => .none
  | .bl b => .bool b
  | .int i => .int i
  | .str x => .str x
  | .lst _ => .none
  | .tup xs => .tuple (toRs xs)
  | .tpw xs => .tuple (toRs xs)
  | .dct kvs => .dict (toRk kvs)
  | .bag => .none
  | .raw _ => .none
  | .fix _ => .none
def toRs : List Da → List PyData
  | [] => []
  | x :: xs => toR x :: toRs xs
def toRk : List (Key × Da) → List (PyData × PyData)
  | [] => []
  | (k, x) :: xs => (keyP k, toR x) :: toRk xs
end
mutual
def canR : Da → Bool
  | .non => true
  | .bl _ => true
  | .int _ => true
  | .str _ => true
  | .lst _ => false
  | .tup xs => canRs xs
  | .tpw xs => canRs xs
  | .dct kvs => canRk kvs
  | .bag => false
  | .raw _ => false
  | .fix _ => false
def canRs : List Da → Bool
  | [] => true
  | x :: xs => canR x && canRs xs
def canRk : List (Key × Da) → Bool
  | [] => true
  | (_, x) :: xs => canR x && canRk xs
end
theorem keys_reads {P : Program} {wd : World} {h : Heap} : ∀ {es : List DictEntry} {us : List (Key × Value)} {kds : List (Key × Da)}, Pairs (mixKind P wd) es us → us.map (·.1) = kds.map (·.1) → ReadsAll h (es.map (·.key)) ((toRk kds).map (·.1)) []
  | _, _, [], .nil, _ => by rw [toRk]; exact .nil
  | _, _, _ :: _, .nil, e => by cases e
  | _, _, [], .cons _ _ _, e => by cases e
  | _, _, (k, x) :: kds, .cons (e := en) (kv := kv) h1 h2 h3, e => by
    rw [List.map_cons, List.map_cons] at e
    injection e with e1 e2
    have t := keys_reads (h := h) h3 e2
    rw [toRk, List.map_cons, List.map_cons]
    have hk : keyIs kv.1 en.key = true := h1
    rw [e1] at hk
    rcases keyIs_shape hk with ⟨i, t0, q1, q2⟩ | ⟨y, t0, q1, q2⟩
    · have q1' : k = .inl i := q1
      rw [q2, q1']
      exact ReadsAll.cons (as := []) (bs := []) (Reads.int i t0) t
    · have q1' : k = .inr y := q1
      rw [q2, q1']
      exact ReadsAll.cons (as := []) (bs := []) (Reads.str y t0) t
theorem pairs_vals {P : Program} {wd : World} : ∀ {es : List DictEntry} {us : List (Key × Value)}, Pairs (mixKind P wd) es us → es.map (·.val) = us.map (·.2)
  | _, _, .nil => rfl
  | _, _, .cons _ h2 h3 => by rw [List.map_cons, List.map_cons, h2, pairs_vals h3]
section
variable {X : Cx} {pins : List (Addr × Obj)} {σ : L2.St} {H : Hp} {s : Shared} {g : Gd} {Hh : Hp}
mutual
theorem Dv.readsR (I : Inv X pins σ H s) (sm : Sm Hh H) : ∀ (d : Da) (v : V) (u : Value), Dv X.K g Hh v d → canR d = true → RelV v u → ∃ as, Reads s.heap u (toR d) as ∧ sysModules ∉ as
  | .non, _, _, h, _, r => by cases h; cases r; exact ⟨[], by rw [toR]; exact .none, List.not_mem_nil⟩
  | .bl b, _, _, h, _, r => by cases h; cases r; exact ⟨[], by rw [toR]; exact .bool b, List.not_mem_nil⟩
  | .int i, _, _, h, _, r => by cases h; obtain ⟨t, rfl⟩ := r; exact ⟨[], by rw [toR]; exact .int i t, List.not_mem_nil⟩
  | .str x, _, _, h, _, r => by cases h; obtain ⟨t, rfl⟩ := r; exact ⟨[], by rw [toR]; exact .str x t, List.not_mem_nil⟩
  | .lst _, _, _, _, c, _ => by rw [canR] at c; cases c
  | .tup ds, _, _, h, c, r => by
    rw [canR] at c
    cases h with
    | tup h1 h2 =>
      cases r
      obtain ⟨its, rv, ⟨o, ho, hc, n, hd⟩, _⟩ := I.tuple (sqt_mono sm h1.sq)
      obtain ⟨as, q1, q2⟩ := DvAll.readsR I sm ds _ its h2 c rv
      exact ⟨as, by rw [toR]; exact .tuple ho hc hd q1, q2⟩
  | .tpw ds, _, _, h, c, r => by
    rw [canR] at c
    cases h with
    | tpw h1 h2 =>
      cases r
      obtain ⟨its, rv, ⟨o, ho, hc, n, hd⟩, _⟩ := I.tuple (sqt_mono sm h1)
      obtain ⟨as, q1, q2⟩ := DvAll.readsR I sm ds _ its h2 c rv
      exact ⟨as, by rw [toR]; exact .tuple ho hc hd q1, q2⟩
  | .dct kds, _, _, h, c, r => by
    rw [canR] at c
    cases h with
    | @dct a kvs _ h1 h2 =>
      cases r
      obtain ⟨_, low, us, kv, o, es, ep, ho, hex, hd, _, hp, _⟩ := (show ObjOk X.prog X.w H s.heap a (.dK kvs) from I.hok a _ (sm _ _ h1))
      obtain ⟨bs, q1, q2, q3⟩ := KvAll.readsR I sm kds kvs us h2 c kv
      refine ⟨a :: ([] ++ bs), ?_, fun z => ?_⟩
      · rw [toR]
        have k1 := keys_reads (h := s.heap) hp q3
        have k2 := pairs_vals hp
        exact Reads.dict (as := []) (bs := bs) ho hex.1 hd k1 (by rw [k2]; exact q1)
      · rcases List.mem_cons.mp z with z | z
        · rw [← z] at low
          simp at low
        · exact q2 z
  | .bag, _, _, _, c, _ => by rw [canR] at c; cases c
  | .raw _, _, _, _, c, _ => by rw [canR] at c; cases c
  | .fix _, _, _, _, c, _ => by rw [canR] at c; cases c
theorem DvAll.readsR (I : Inv X pins σ H s) (sm : Sm Hh H) : ∀ (ds : List Da) (vs : List V) (us : List Value), DvAll X.K g Hh vs ds → canRs ds = true → Vals vs us → ∃ as, ReadsAll s.heap us (toRs ds) as ∧ sysModules ∉ as
  | [], _, _, h, _, r => by cases h; cases r; exact ⟨[], by rw [toRs]; exact .nil, List.not_mem_nil⟩
  | d :: ds, _, _, h, c, r => by
    rw [canRs, Bool.and_eq_true] at c
    cases h with
    | cons h1 h2 =>
      cases r with
      | cons r1 r2 =>
        obtain ⟨as, q1, n1⟩ := Dv.readsR I sm d _ _ h1 c.1 r1
        obtain ⟨bs, q2, n2⟩ := DvAll.readsR I sm ds _ _ h2 c.2 r2
        exact ⟨as ++ bs, by rw [toRs]; exact .cons q1 q2, fun z => (List.mem_append.mp z).elim n1 n2⟩
theorem KvAll.readsR (I : Inv X pins σ H s) (sm : Sm Hh H) : ∀ (kds : List (Key × Da)) (kvs : List (Key × V)) (us : List (Key × Value)), KvAll X.K g Hh kvs kds → canRk kds = true → KV kvs us → ∃ as, ReadsAll s.heap (us.map (·.2)) ((toRk kds).map (·.2)) as ∧ sysModules ∉ as ∧ us.map (·.1) = kds.map (·.1)
  | [], _, _, h, _, r => by cases h; cases r; exact ⟨[], by rw [toRk]; exact .nil, List.not_mem_nil, rfl⟩
  | (k, d) :: kds, _, _, h, c, r => by
    rw [canRk, Bool.and_eq_true] at c
    cases h with
    | cons h1 h2 =>
      cases r with
      | cons r1 r2 =>
        obtain ⟨as, q1, n1⟩ := Dv.readsR I sm d _ _ h1 c.1 r1.2
        obtain ⟨bs, q2, n2, e2⟩ := KvAll.readsR I sm kds _ _ h2 c.2 r2
        exact ⟨as ++ bs, by rw [toRk]; exact .cons q1 q2, fun z => (List.mem_append.mp z).elim n1 n2, by rw [List.map_cons, List.map_cons, e2]; exact congrArg (· :: _) r1.1.symm⟩
end
end
/-! ### repr -/
section
variable {X : Cx} {w : Wd} {e : Expr} {es : List Expr} {t : TDA} {p pos : Pos}
/-! ### displays of dicts -/
end
end Pd
/-! The same as tests. -/
namespace Pd
open PySem PySem.Spec PyProof.Rows L2
section
variable {X : Cx} {w : Wd} {a b c : Expr} {ta tb tc : TDE} {pos : Pos}
end
end Pd
/-! Sorted texts: one list alone is sorted; lists of texts compared. -/
namespace Pd
open PySem PySem.Spec PyProof.Rows L2
end Pd
/-! xs == [], xs != [] of lists of whatever. -/
namespace Pd
open PySem PySem.Spec PyProof.Rows L2
theorem ne_lengths (a b : Addr) (xs ys : Array Value) (n m : Nat) (dd dd2 : Option Addr) (sl sl2 : Array (Option Value)) (c : (xs.size != ys.size) = true) :
    Meets (Builtin.«list.__ne__» ⟨[.ref a, .ref b], []⟩) (fun _ R s => s.heap.get? a = some { cls := .type "list", dict := dd, data := .seq xs n, slots := sl } ∧ s.heap.get? b = some { cls := .type "list", dict := dd2, data := .seq ys m, slots := sl2 } ∧ R (.ok (.ret (.bool true))) s) :=
  .of_wp fun prog w A R s h => by
    obtain ⟨hp, g, d, tk, os⟩ := s
    obtain ⟨ha, hb, q⟩ := h
    have sub := AutoSeq1.sub_list_list
    wp_walk using wpAny_loadPart' ha, wpAny_loadPart' hb
    exact ⟨_, rfl, q⟩
section
variable {X : Cx}
def rEqNil (neg : Bool) : R2 := fun x y H Q => ∃ a b xs, x = .ref a ∧ y = .ref b ∧ H a = some (.lst xs) ∧ H b = some (.lst []) ∧ Q (.bl (if neg then !xs.isEmpty else xs.isEmpty)) H
theorem op_eqNil (hu : X.A.units + 64 < cLine) : OpR X (compareOp .Eq) (rEqNil false) := by
  intro pins s σ H x y v u Q I rx ry h
  obtain ⟨a, b, xs, rfl, rfl, ha, hb, q⟩ := h
  by_cases e : xs = []
  · subst e
    exact op_eqD (X := X) hu pins s σ H _ _ v u Q I rx ry ⟨.list [], .list [], .lst (SqL.of ha) .nil, .lst (SqL.of hb) .nil, by decide +kernel, by decide +kernel, q⟩
  · cases rx
    cases ry
    obtain ⟨its, r, ha1, _⟩ := I.list (SqL.of ha)
    obtain ⟨its2, r2, hb1, _⟩ := I.list (SqL.of hb)
    cases r2
    obtain ⟨⟨cls, dd, data, sl⟩, ho, hc, n, hd⟩ := ha1.isList
    obtain ⟨⟨cls2, dd2, data2, sl2⟩, ho2, hc2, n2, hd2⟩ := hb1.isList
    simp only at hc hd hc2 hd2
    subst hc hd hc2 hd2
    have ta : s.TypeIs (.ref a) "list" := ⟨_, ho, rfl⟩
    have tb : s.TypeIs (.ref b) "list" := ⟨_, ho2, rfl⟩
    have big : (its.toArray.size != ([] : List Value).toArray.size) = true := by
      have := r.length
      have : xs.length ≠ 0 := fun z => e (List.length_eq_zero_iff.mp z)
      simp
      intro z
      rw [z] at r
      cases r
      exact e rfl
    have q' : EP X pins σ Q (.bool false) s := ⟨.bl false, H, I, rfl, by
      rw [if_neg Bool.false_ne_true, show xs.isEmpty = false by cases xs; exact absurd rfl e; rfl] at q
      exact q⟩
    exact wpAny_richCompare_same_room (op := .Eq) ta tb PySem.F.slot_list_eq (call_meets PySem.F.slot_list_eq ta PySem.F.entry_list_eq (PySem.F.args_list_eq_2 _ _) (SeqAt.list_eq_lengthsAt a b its.toArray _ n n2 dd dd2 sl sl2 big) ⟨ho, ho2, (fun z => nomatch z), q'⟩) (by omega)
theorem op_neNil (hu : X.A.units + 64 < cLine) : OpR X (compareOp .NotEq) (rEqNil true) := by
  intro pins s σ H x y v u Q I rx ry h
  obtain ⟨a, b, xs, rfl, rfl, ha, hb, q⟩ := h
  by_cases e : xs = []
  · subst e
    exact op_neD (X := X) hu pins s σ H _ _ v u Q I rx ry ⟨.list [], .list [], .lst (SqL.of ha) .nil, .lst (SqL.of hb) .nil, by decide +kernel, by decide +kernel, q⟩
  · cases rx
    cases ry
    obtain ⟨its, r, ha1, _⟩ := I.list (SqL.of ha)
    obtain ⟨its2, r2, hb1, _⟩ := I.list (SqL.of hb)
    cases r2
    obtain ⟨⟨cls, dd, data, sl⟩, ho, hc, n, hd⟩ := ha1.isList
    obtain ⟨⟨cls2, dd2, data2, sl2⟩, ho2, hc2, n2, hd2⟩ := hb1.isList
    simp only at hc hd hc2 hd2
    subst hc hd hc2 hd2
    have ta : s.TypeIs (.ref a) "list" := ⟨_, ho, rfl⟩
    have tb : s.TypeIs (.ref b) "list" := ⟨_, ho2, rfl⟩
    have big : (its.toArray.size != ([] : List Value).toArray.size) = true := by
      have := r.length
      have : xs.length ≠ 0 := fun z => e (List.length_eq_zero_iff.mp z)
      simp
      intro z
      rw [z] at r
      cases r
      exact e rfl
    have q' : EP X pins σ Q (.bool true) s := ⟨.bl true, H, I, rfl, by
      rw [if_pos rfl, show xs.isEmpty = false by cases xs; exact absurd rfl e; rfl] at q
      exact q⟩
    exact wpAny_richCompare_same_room (op := .NotEq) ta tb PySem.F.slot_list_ne (call_meets PySem.F.slot_list_ne ta PySem.F.entry_list_ne (PySem.F.args_list_ne_2 _ _) (ne_lengths a b its.toArray _ n n2 dd dd2 sl sl2 big) ⟨ho, ho2, (fun z => nomatch z), q'⟩) (by omega)
variable {w : Wd} {a b : Expr} {ta tb : TDE} {pos : Pos}
def eqNilD (neg : Bool) : DD := fun x y Q => ∃ xs, x = .lst xs ∧ y = .lst [] ∧ Q (.bl (if neg then !xs.isEmpty else xs.isEmpty))
theorem eqNilD_mo {n : Bool} : Mo2 (eqNilD n) := fun _ _ _ _ q ⟨xs, a, b, h⟩ => ⟨xs, a, b, q _ h⟩
theorem eqNil_br {n : Bool} : Br2 X.K (rEqNil n) (eqNilD n) := by
  rintro g W H v u x y Q k dx dy ⟨xs, rfl, rfl, h⟩
  cases dx with
  | @lst p us _ a1 a2 =>
    cases dy with
    | @lst q zs _ b1 b2 =>
      cases b2
      have e : us.isEmpty = xs.isEmpty := by
        cases a2 with
        | nil => rfl
        | cons _ _ => rfl
      exact ⟨p, q, us, rfl, rfl, (hid_some a1).2, (hid_some b1).2, by rw [e]; exact h.now k (.bl _)⟩
theorem ped_eqNil {k : Nat} (hr : Room k X.A) (ha : PEd X w a ta) (hb : PEd X w b tb) : PEd X w (.Compare a [.Eq] [b] pos) (dOp (eqNilD false) ta tb) := ped_cmp (op_eqNil hr.units) (nobehind _ (by decide) (by decide)) eqNilD_mo eqNil_br ha hb
theorem ptd_neNil {k : Nat} (hr : Room k X.A) (ha : PEd X w a ta) (hb : PEd X w b tb) : PTd X w (.Compare a [.NotEq] [b] pos) (dB (dOp (eqNilD true) ta tb)) := ptd_cmp (op_neNil hr.units) (nobehind _ (by decide) (by decide)) eqNilD_mo eqNil_br ha hb
end
end Pd
/-! New lists: comprehensions of one and of two walks, a def that returns one, a def's list kept as one's own. -/
namespace Pd
open PySem PySem.Spec PyProof.Rows L2
section
variable {K : PySem.W.Frag} {w : Wd} {W : Addr → Bool} {own : Ow} {r : En} {σ : L2.St} {H H' : Hp}
/-- a target that takes no list over -/
structure GDs (K : PySem.W.Frag) (g : TG) (gd : TDG) (vs : List Nat) : Prop where
  run : ∀ (w : Wd) (W : Addr → Bool) (own : Ow) (r : En) (σ : L2.St) (H : Hp) (v : V) (d : Da) (Q : En → Prop), Stt K w W own r σ H → Dv K w.g (hid W H) v d → gd d r Q →
    g v σ H fun σ' H' => H' = H ∧ (∀ us, (∀ i ∈ vs, i ∈ us) → L2.wipe σ' us = L2.wipe σ us) ∧ ∃ own' r', (∀ j a, own' j a → own j a) ∧ Stt K w W own' r' σ' H ∧ Q r'
  mo : ∀ d r Q Q', (∀ r, Q r → Q' r) → gd d r Q → gd d r Q'
theorem gds_name (i : Nat) : GDs K (gName i) (dgName i) [i] := by
  refine ⟨fun w W own r σ H v d Q S dv h => ?_, fun d r Q Q' q h => q _ h⟩
  exact ⟨rfl, fun us hu => wipe_set (hu i List.mem_cons_self), _, _, fun j a h => h.2, S.setS (i := i) dv, h⟩
/-! ### a list that grows at D -/
structure Gro (K : PySem.W.Frag) (g : Gd) (W : Addr → Bool) (H1 : Hp) (D : Addr) (H' : Hp) (ad : List Da) : Prop where
  ext : Ext g H1 H'
  bag : BagI K g (hideD W D) H'
  at_ : ∃ av, H' D = some (.lst av) ∧ DvAll K g (hid (hideD W D) H') av ad
theorem hidD_upd {W : Addr → Bool} {H : Hp} {D : Addr} {o : HO} : hid (hideD W D) (upd H D o) = hid (hideD W D) H := hid_upd hideD_at
section
variable {g : Gd} {H1 : Hp} {D : Addr} {ad : List Da}
theorem Gro.go (G : Gro K g W H1 D H ad) (gne : ¬ Bd g D) (gW : ∀ a, Bd g a → hideD W D a = true) (e : Ext g H H') (b : BagI K g (hideD W D) H') : Gro K g W H1 D H' ad := by
  obtain ⟨av, h1, h2⟩ := G.at_
  exact ⟨G.ext.trans e, b, av, e D _ gne h1, DvAll.mono (e.hid gW) _ _ h2⟩
theorem Gro.push (G : Gro K g W H1 D H ad) (hD : H1 D = none) (gne : ¬ Bd g D) {v : V} {y : Da} (d : Dv K g (hid (hideD W D) H) v y) : ∃ av, H D = some (.lst av) ∧ av.length = ad.length ∧ Gro K g W H1 D (upd H D (.lst (av ++ [v]))) (ad ++ [y]) := by
  obtain ⟨av, h1, h2⟩ := G.at_
  refine ⟨av, h1, h2.len, ⟨fun b o nb hb => ?_, fun a xs ha hx => ?_⟩, G.bag.upd gne hideD_at (fun φ z => by rw [h1] at z; cases z), av ++ [v], upd_same, by rw [hidD_upd]; exact h2.app (.cons d .nil)⟩
  · rw [upd_ne (ne_of_none hb hD)]
    exact G.ext b o nb hb
  · have ne : a ≠ D := fun z => gne (.inl (z ▸ ha))
    rw [upd_ne ne]
    exact G.ext.last a xs ha hx
/-- the list is done: it is new -/
theorem Gro.new (G : Gro K g W H1 D H ad) (hD : H1 D = none) (k : OkW K g W H1) : ∃ xs Hm, Ext g H1 Hm ∧ OkW K g W Hm ∧ Hm D = none ∧ DvAll K g (hid W Hm) xs ad ∧ H = upd Hm D (.lst xs) := by
  obtain ⟨av, h1, h2⟩ := G.at_
  have gne : ¬ Bd g D := fun z => by
    obtain ⟨o, q⟩ := k.al D (k.gW D z)
    rw [hD] at q; cases q
  have WD : W D = false := by
    cases y : W D with
    | false => rfl
    | true => obtain ⟨o, q⟩ := k.al D y; rw [hD] at q; cases q
  have eq : hid (hideD W D) H = hid W (cutAt D H) := by
    funext b
    unfold hid
    by_cases z : b = D
    · subst z
      rw [hideD_at, if_pos rfl, WD, if_neg Bool.false_ne_true, cutAt_same]
    · rw [hideD_ne z, cutAt_ne z]
  refine ⟨av, cutAt D H, ⟨fun b o nb hb => ?_, fun a xs ha hx => ?_⟩, ⟨(G.bag.cut gne hideD_at (fun φ z => by rw [h1] at z; cases z)).less (fun a h => hideD_le h), k.gW, fun a ha => ?_⟩, cutAt_same, by rw [← eq]; exact h2, ?_⟩
  · rw [cutAt_ne (ne_of_none hb hD)]
    exact G.ext b o nb hb
  · have ne : a ≠ D := fun z => gne (.inl (z ▸ ha))
    obtain ⟨ys, q1, q2⟩ := G.ext.last a xs ha hx
    exact ⟨ys, by rw [cutAt_ne ne]; exact q1, q2⟩
  · have ne : a ≠ D := fun z => by rw [z, WD] at ha; cases ha
    rw [cutAt_ne ne]
    by_cases y : Bd g a
    · exact G.bag.al y
    · obtain ⟨o, q⟩ := k.al a ha
      exact ⟨o, G.ext a o y q⟩
  · funext b
    by_cases z : b = D
    · rw [z, h1, upd_same]
    · rw [upd_ne z, cutAt_ne z]
end
/-- all but the bag and what stands at D is kept -/
structure Xt (g : Gd) (D : Addr) (H H' : Hp) : Prop where
  out : ∀ b o, b ≠ D → ¬ Bd g b → H b = some o → H' b = some o
  last : ∀ a xs, g.bag = some a → H a = some (.lst xs) → ∃ ys, H' a = some (.lst ys) ∧ ys[3]? = xs[3]?
theorem Xt.of {g : Gd} {D : Addr} {H H' : Hp} (e : Ext g H H') : Xt g D H H' := ⟨fun b o _ n h => e b o n h, e.last⟩
theorem Xt.trans {g : Gd} {D : Addr} {H H1 H2 : Hp} (a : Xt g D H H1) (b : Xt g D H1 H2) : Xt g D H H2 := ⟨fun c o n1 n2 h => b.out c o n1 n2 (a.out c o n1 n2 h), fun c xs hg h => by
  obtain ⟨ys, h1, h2⟩ := a.last c xs hg h
  obtain ⟨zs, h3, h4⟩ := b.last c ys hg h1
  exact ⟨zs, h3, h4.trans h2⟩⟩
theorem Xt.upd {g : Gd} {D : Addr} {H : Hp} {o : HO} (gne : ¬ Bd g D) : Xt g D H (upd H D o) := ⟨fun b o n _ h => by rw [upd_ne n]; exact h, fun a xs ha h => ⟨xs, by rw [upd_ne (show a ≠ D from fun z => gne (.inl (z ▸ ha)))]; exact h, rfl⟩⟩
theorem Xt.hid {g : Gd} {D : Addr} {H H' : Hp} {W : Addr → Bool} (gW : ∀ a, Bd g a → W a = true) (WD : W D = true) (e : Xt g D H H') : Sm (hid W H) (hid W H') := fun a o q => by
  obtain ⟨e1, e2⟩ := hid_some q
  rw [hid_no e1]
  exact e.out a o (fun z => by rw [z, WD] at e1; cases e1) (fun z => by rw [gW a z] at e1; cases e1) e2
end

/-! ### the turns -/
def lcK (gd : TDG) (tt : TDT) (te : TDE) (vs : List Nat) (r : En) (k : List Da → Prop) : List Da → List Da → Prop
  | [], acc => k acc
  | d :: ds, acc => gd d (wipeD r vs) fun r2 => tt r2 fun b => if b = true then te r2 fun y => acc.length < sizeLine ∧ lcK gd tt te vs r k ds (acc ++ [y]) else lcK gd tt te vs r k ds acc
theorem lcK_mo {gd : TDG} {tt : TDT} {te : TDE} {vs : List Nat} {r : En} (mg : ∀ d r Q Q', (∀ r, Q r → Q' r) → gd d r Q → gd d r Q') (mt : ∀ r Q Q', (∀ b, Q b → Q' b) → tt r Q → tt r Q') (me : ∀ r Q Q', (∀ b, Q b → Q' b) → te r Q → te r Q') {k k' : List Da → Prop} (q : ∀ d, k d → k' d) :
    ∀ ds acc, lcK gd tt te vs r k ds acc → lcK gd tt te vs r k' ds acc
  | [], acc, h => q _ h
  | d :: ds, acc, h => mg _ _ _ _ (fun r2 z => mt _ _ _ (fun b z => ite_mo (me _ _ _ fun y z => ⟨z.1, lcK_mo mg mt me q ds _ z.2⟩) (lcK_mo mg mt me q ds _) z) z) h
end Pd
/-! Comprehensions as new lists. -/
namespace Pd
open PySem PySem.Spec PyProof.Rows L2
/-- what a new list must give -/
def NewL (K : PySem.W.Frag) (g : Gd) (W : Addr → Bool) (H : Hp) (Q : VK) (ds : List Da) : Prop := ∀ p xs H1, Ext g H H1 → OkW K g W H1 → H1 p = none → DvAll K g (hid W H1) xs ds → Q (.ref p) (upd H1 p (.lst xs))
theorem gro_start {K : PySem.W.Frag} {g : Gd} {W : Addr → Bool} {H1 : Hp} {D : Addr} (k : OkW K g W H1) (hD : H1 D = none) : Gro K g W H1 D (upd H1 D (.lst [])) [] := by
  exact ⟨Ext.of (sm_upd hD), k.bag.lay (k.bag.free hD) hD, [], upd_same, .nil⟩
theorem drop_at {ds : List Da} {i : Nat} {d : Da} (hd : ds[i]? = some d) : ds.drop i = d :: ds.drop (i + 1) := by
  obtain ⟨h1, h2⟩ := List.getElem?_eq_some_iff.mp hd
  rw [List.drop_eq_getElem_cons h1, h2]
section
variable {K : PySem.W.Frag} {w : Wd}
theorem Gro.sm {g : Gd} {W : Addr → Bool} {H1 H' : Hp} {D : Addr} {ad : List Da} (G : Gro K g W H1 D H' ad) (k : OkW K g W H1) (hD : H1 D = none) : Sm (hid W H1) (hid (hideD W D) H') := fun a o z => by
  obtain ⟨q1, q2⟩ := hid_some z
  have ne : a ≠ D := ne_of_none q2 hD
  rw [hid_no (by rw [hideD_ne ne]; exact q1)]
  exact G.ext a o (fun z => by rw [k.gW a z] at q1; cases q1) q2
theorem lcF_in {g : TG} {gd : TDG} {gvs vs : List Nat} {tt : TDT} {te : TDE} {σ : L2.St} {H : Hp} {Q : VK} {wd : TDI} {W : Addr → Bool} {own : Ow} {r : En} (G : GDs K g gd gvs) (gmo : ∀ v σ H Q Q', (∀ a b, Q a b → Q' a b) → g v σ H Q → g v σ H Q') (sub : ∀ i ∈ gvs, i ∈ vs)
    (mt : ∀ r Q Q', (∀ b, Q b → Q' b) → tt r Q → tt r Q') (me : ∀ r Q Q', (∀ b, Q b → Q' b) → te r Q → te r Q') (mw : ∀ r Q Q', (∀ ds, Q ds → Q' ds) → wd r Q → wd r Q')
    (S : Stt K w W own r σ H) (h : wd r fun ds => lcK gd tt te vs r (NewL K w.g W H Q) ds []) : tLc (liI K w wd) g (liT K w tt) (liE K w te) vs σ H Q := by
  refine ⟨W, own, r, S, mw _ _ _ (fun ds q J H1 e1 k1 wk => ?_) h⟩
  intro D hD
  have S1 := S.ext e1 k1
  have gne : ¬ Bd w.g D := fun z => by
    obtain ⟨o, z2⟩ := S1.ok.al D (S1.ok.gW D z)
    rw [hD] at z2; cases z2
  refine ⟨fun i m H' => m = ds.length - i ∧ i ≤ ds.length ∧ ∃ ad, Gro K w.g W H1 D H' ad ∧ lcK gd tt te vs r (NewL K w.g W H Q) (ds.drop i) ad, ⟨ds.length, by simp, Nat.zero_le _, [], gro_start k1 hD, by rw [List.drop_zero]; exact q⟩, ?_⟩
  rintro i m H' ⟨rfl, hi', ad, gr, f⟩
  obtain ⟨av, hav, _⟩ := gr.at_
  have SD : Stt K w (hideD W D) own r σ H' := S1.hideD hD gr.ext hav gr.bag
  have sm := gr.sm k1 hD
  have sm' : Sm (hid W H1) H' := fun a o z => (hid_some (sm a o z)).2
  obtain ⟨w1, w2, w3⟩ := wk i H' sm'
  by_cases hl : i < ds.length
  · refine .inr ⟨w1 hl, fun H2 => ∃ ad, Gro K w.g W H1 D H2 ad ∧ lcK gd tt te vs r (NewL K w.g W H Q) (ds.drop (i + 1)) ad, fun H2 z => ⟨ds.length - (i + 1), by omega, rfl, by omega, z⟩, fun x H2 y => ?_⟩
    obtain ⟨sH, d, hd, dv⟩ := w3 x H2 hl y
    have e2 : Ext w.g H' H2 := Ext.of sH
    have k2 : OkW K w.g (hideD W D) H2 := SD.ok.same sH
    have S2 := (SD.ext e2 k2).wipe vs
    have dvx : Dv K w.g (hid (hideD W D) H2) x d := by
      refine dv _ (fun a o z => e2.hid SD.ok.gW a o (sm a o z)) fun b o nb z => ?_
      rw [hid_no]
      · exact z
      · cases y' : hideD W D b with
        | false => rfl
        | true =>
          obtain ⟨o', z'⟩ := SD.ok.al b y'
          rw [nb] at z'; cases z'
    rw [drop_at hd] at f
    have gr2 := gr.go gne SD.ok.gW e2 k2.bag
    refine gmo _ _ _ _ _ ?_ (G.run w (hideD W D) own (wipeD r vs) (L2.wipe σ vs) H2 x d _ S2 dvx f)
    rintro σ3 H3 ⟨rfl, wp, own3, r3, _, S3, t3⟩
    refine ⟨by rw [wp vs sub, wipe_idem], hideD W D, own3, r3, S3, mt _ _ _ (fun b z H4 e4 k4 => ?_) t3⟩
    have gr4 := gr2.go gne SD.ok.gW e4 k4.bag
    refine ite_mo (fun z => ?_) (fun z => ⟨ad, gr4, z⟩) z
    refine ⟨hideD W D, own3, r3, S3.ext e4 k4, me _ _ _ (fun y z v H5 e5 k5 d5 => ?_) z⟩
    obtain ⟨av5, q1, q2, q3⟩ := (gr4.go gne SD.ok.gW e5 k5.bag).push hD gne d5
    exact ⟨av5, q1, by rw [q2]; exact z.1, _, q3, z.2⟩
  · refine .inl ⟨w2 (by omega), ?_⟩
    rw [List.drop_eq_nil_of_le (by omega)] at f
    obtain ⟨xs, Hm, m1, m2, m3, m4, rfl⟩ := gr.new hD k1
    exact f D xs Hm (e1.trans m1) m2 m3 m4
end
section
variable {X : Cx} {w : Wd} {e : Expr} {es : List Expr} {pos : Pos}
def dLcK (wd : TDI) (gd : TDG) (tt : TDT) (te : TDE) (vs : List Nat) : TDA := fun r Q => wd r fun ds => lcK gd tt te vs r Q ds []
/-- a new list as a datum -/
theorem PFd.ped {t : TDA} (h : PFd X w e t) : PEd X w e (fun r Q => t r fun ds => Q (.lst ds)) := by
  refine ⟨weE h.pe ?_, fun r Q Q' q z => h.mo _ _ _ (fun ds z => q _ z) z⟩
  rintro σ H Q ⟨W, own, r, S, z⟩
  refine ⟨W, own, r, S, h.mo _ _ _ (fun ds q p xs H1 e1 k1 np dv => ?_) z⟩
  obtain ⟨n1, n2, n3, n4⟩ := k1.new (o := .lst xs) np
  exact q _ _ (e1.trans n1) n2 (.lst n4 (DvAll.mono n3 _ _ dv))
/-- with a look at one's own -/
theorem pfd_open {t : TDA} (h : ∀ w, PFd X w e t) : PFd X w e (fun r Q => t (openE r) fun ds => noLs ds = true ∧ Q ds) := by
  refine ⟨⟨fun pins s σ H Q I q => ?_⟩, fun r Q Q' q z => (h w).mo _ _ _ (fun d p => ⟨p.1, q d p.2⟩) z⟩
  obtain ⟨W, own, r, S, z⟩ := q
  refine (h ⟨H, w.g, shut W own r⟩).pe.run pins s σ H Q I ⟨shut W own r, fun _ _ => False, openE r, S.opened, (h w).mo _ _ _ (fun ds q p xs H1 e1 k1 np dv => q.2 p xs H1 e1 (S.shutOk e1 k1) np (DvAll.sees (S.seesBack e1) _ _ q.1 dv)) z⟩
end
end Pd
/-! Defs that return a new list. -/
namespace Pd
open PySem PySem.Spec PyProof.Rows L2
/-! ### the promise of a new list -/
abbrev DSpF := List Da → (List Da → Prop) → Prop
def MoPF (p : DSpF) : Prop := ∀ ds Q Q', (∀ d, Q d → Q' d) → p ds Q → p ds Q'
def liF (K : PySem.W.Frag) (p : DSpF) : Sp := fun vs H Q _ => ∃ g W ds, OkW K g W H ∧ DvAll K g (hid W H) vs ds ∧ p ds (NewL K g W H Q)
structure CalldF (P : Program) (wd : World) (K : PySem.W.Frag) (mg : Str → Option Value) (base : Heap) (k : Nat) (x : Str) (ps : List Str) (p : DSpF) : Prop where
  ex : ∃ f fd, FnG P wd K mg base CX0 k f fd ps (liF K p) ∧ mg x = some (.ref f) ∧ PySem.W.keepIn K (.ref f) = true ∧ Binds K fd ps []
  mp : MoPF p
section
variable {P : Program} {wd : World} {K : PySem.W.Frag} {mg : Str → Option Value} {base : Heap}
theorem CalldF.up {j k : Nat} {x : Str} {ps : List Str} {p : DSpF} (c : CalldF P wd K mg base j x ps p) (h : j ≤ k) : CalldF P wd K mg base k x ps p := by
  obtain ⟨⟨f, fd, F, a, b, d⟩, mp⟩ := c
  exact ⟨⟨f, fd, F.up h, a, b, d⟩, mp⟩
theorem NewL.aft {g : Gd} {W : Addr → Bool} {H : Hp} {Q : VK} {ds : List Da} (h : Aft K g W H Q (.lst ds)) : NewL K g W H Q ds := fun p xs H1 e1 k1 np dv => by
  obtain ⟨n1, n2, n3, n4⟩ := k1.new (o := .lst xs) np
  exact h _ _ (e1.trans n1) n2 (.lst n4 (DvAll.mono n3 _ _ dv))
theorem NewL.then {g : Gd} {W : Addr → Bool} {H H' : Hp} {Q : VK} {ds : List Da} (h : NewL K g W H Q ds) (e : Ext g H H') : NewL K g W H' Q ds := fun p xs H1 e1 => h p xs H1 (e.trans e1)
/-- as a datum -/
theorem CalldF.dat {k : Nat} {x : Str} {ps : List Str} {p : DSpF} (c : CalldF P wd K mg base k x ps p) : Calld P wd K mg base k x ps (fun ds Q => p ds fun xs => Q (.lst xs)) := by
  obtain ⟨⟨f, fd, F, a, b, d⟩, mp⟩ := c
  refine ⟨⟨f, fd, ⟨fun vs H Q E ⟨g, W, ds, k1, dv, h⟩ => F.many vs H Q E ⟨g, W, ds, k1, dv, mp _ _ _ (fun _ => NewL.aft) h⟩, fun A outer s0 H args us vs Q E room hG z bd rel ⟨g, W, ds, k1, dv, h⟩ => F.goes A outer s0 H args us vs Q E room hG z bd rel ⟨g, W, ds, k1, dv, mp _ _ _ (fun _ => NewL.aft) h⟩⟩, a, b, d⟩, fun ds Q Q' q h => mp _ _ _ (fun xs => q _) h⟩
end
section
variable {X : Cx} {w : Wd}
def dCallF (p : DSpF) (t : TDA) : TDA := fun r Q => t r fun ds => p ds Q
theorem pfd_f {x : Str} {p pos : Pos} {k : Nat} {ps : List Str} {sp : DSpF} {t : TDA} {e : Expr} {es : List Expr} (c : CalldF X.prog X.w X.K X.mg X.base k x ps sp) (room : Room k X.A) (hG : X.A.guards = some []) (args : PAd X w (e :: es) t) (gl : Gl X x := by rfl) (nd : (x == ("__debug__" : Str)) = false := by decide)
    (st : starEach (e :: es) X.env = (false, eval e X.env) :: starEach es X.env := by rfl) (bk : (backTo pos (starEach es X.env)).any (·.1) = false := by rfl) : PFd X w (.Call (.Name x p) (e :: es) [] pos) (dCallF sp t) := by
  obtain ⟨⟨f, fd, F, a, b, d⟩, mp⟩ := c
  refine ⟨weE (pe_callG (E := E0) F room hG gl a b d .nil pass0 args.pa nd st bk) ?_, fun r Q Q' q h => args.mo _ _ _ (fun ds z => mp _ _ _ q z) h⟩
  rintro σ H Q ⟨W, own, r, S, h⟩
  refine goA args S h fun xs vs H1 e1 k1 d1 p => ?_
  rw [List.append_nil]
  exact ⟨w.g, W, xs, k1, d1, mp _ _ _ (fun d q => NewL.then q e1) p⟩
end

/-! ### the body of such a def -/
structure EnF extends EnD where
  rf : List Da → Prop
abbrev TDF := EnF → En → Prop
/-- what is hidden at the start stands somewhere -/
def WOk (w : Wd) : Prop := ∀ a, w.W0 a = true → ∃ o, w.H0 a = some o
def endF (K : PySem.W.Frag) (w : Wd) (W : Addr → Bool) (H : Hp) (E : Ends) : EnF := { endD K w W H E with rf := NewL K w.g w.W0 w.H0 E.rt }
structure LeF (E E' : EnF) : Prop where
  le : Le E.toEnD E'.toEnD
  rf : ∀ d, E.rf d → E'.rf d
structure PSsF (X : Cx) (w : Wd) (st : List Stmt) (t : TDF) : Prop where
  ps : PSs X st (fun E σ H => ∃ W own r, Stt X.K w W own r σ H ∧ t (endF X.K w W H E) r)
  mo : ∀ E E' r, LeF E E' → t E r → t E' r
theorem endF_grow {K : PySem.W.Frag} {w : Wd} {W W1 : Addr → Bool} {H H1 : Hp} {E : Ends} (g : Grow w.g W H W1 H1) : LeF (endF K w W H E) (endF K w W1 H1 E) := ⟨endD_grow g, fun _ h => h⟩
section
variable {X : Cx} {w : Wd} {e : Expr} {es : List Expr} {st : Stmt} {sts rest : List Stmt} {pos : Pos} {t : TDS} {tt : TDT} {u v : TDF}
def dSeqF (t : TDS) (u : TDF) : TDF := fun E r => t { E.toEnD with nx := u E } r
theorem psf_cons (h1 : PSd X w st t) (h2 : PSsF X w rest u) : PSsF X w (st :: rest) (dSeqF t u) := by
  refine ⟨weSs (pss_cons h1.ps h2.ps) ?_, fun E E' r l h => h1.mo { E.toEnD with nx := u E } { E'.toEnD with nx := u E' } r ⟨fun r' => h2.mo E E' r' l, l.le.rt, l.le.bk, l.le.ct⟩ h⟩
  rintro D σ H ⟨W, own, r, S, h⟩
  refine ⟨W, own, r, S, h1.mo { endD X.K w W H D with nx := u (endF X.K w W H D) } (endD X.K w W H { D with nx := _ }) r ⟨fun r' z W' o' σ' H' g' S' => ?_, fun _ z => z, fun _ z => z, fun _ z => z⟩ h⟩
  exact ⟨W', o', r', S', h2.mo _ _ _ (endF_grow g') z⟩
theorem psf_retF {t : TDA} (he : PFd X w e t) : PSsF X w [.Return (some e) pos] (fun E r => t r E.rf) := by
  refine ⟨weSs (pss_one (ps_ret he.pe)) ?_, fun E E' r l h => he.mo _ _ _ l.rf h⟩
  rintro D σ H ⟨W, own, r, S, h⟩
  refine ⟨W, own, r, S, he.mo _ _ _ (fun ds z p xs H1 e1 k1 np dv => ?_) h⟩
  refine z p xs H1 (S.base.trans e1) (k1.less S.w0 S.g0) np (DvAll.mono (hid_le S.w0) _ _ dv)
theorem psf_retOwn (i : Nat) {x : Str} {p : Pos} (hw : WOk w) (hN : X.N[i]? = some x := by rfl) (hv : Vis X.env.scope x := by first | exact Or.inl rfl | exact Or.inr (Or.inl rfl) | exact Or.inr (Or.inr rfl)) (hd : (x == ("__debug__" : Str)) = false := by decide) (hcd : (x == ("__classdict__" : Str)) = false := by decide) :
    PSsF X w [.Return (some (.Name x p)) pos] (fun E r => ∃ ds, r[i]? = some (.own ds) ∧ E.rf ds) := by
  refine ⟨weSs (pss_one (ps_ret (pv i hN hv hd hcd))) ?_, fun E E' r l ⟨ds, h1, h2⟩ => ⟨ds, h1, l.rf _ h2⟩⟩
  rintro D σ H ⟨W, own, r, S, ds, hr, h⟩
  obtain ⟨v, hv, a, xs, o1, rfl, o3, o4⟩ := S.sl i _ hr (fun z => by cases z)
  obtain ⟨oW, oH, og⟩ := S.oW i a o1.1
  have w0a : w.W0 a = false := by
    cases q : w.W0 a with
    | false => rfl
    | true => obtain ⟨o, z⟩ := hw a q; rw [oH] at z; cases z
  have eq : H = upd (cutAt a H) a (.lst xs) := by
    funext b
    by_cases z : b = a
    · rw [z, o3, upd_same]
    · rw [upd_ne z, cutAt_ne z]
  have sm : Sm (hid W H) (hid w.W0 (cutAt a H)) := fun b o q => by
    obtain ⟨q1, q2⟩ := hid_some q
    have ne : b ≠ a := fun z => by rw [z, oW] at q1; cases q1
    rw [hid_no, cutAt_ne ne]
    · exact q2
    · cases y : w.W0 b with
      | false => rfl
      | true => rw [S.w0 b y] at q1; cases q1
  refine ⟨.ref a, hv, ?_⟩
  have z := h a xs (cutAt a H) ⟨fun b o n hb => ?_, fun b ys hb hx => ?_⟩ ⟨(S.ok.bag.cut og oW (S.inj _ _ a o1.1 o1.1).2.nx).less S.w0, S.g0, fun c hc => ?_⟩ cutAt_same (DvAll.mono sm _ _ o4)
  · rw [← eq] at z
    exact z
  · rw [cutAt_ne (ne_of_none hb oH)]
    exact S.base b o n hb
  · have ne : b ≠ a := fun z => og (.inl (z ▸ hb))
    rw [cutAt_ne ne]
    exact S.base.last b ys hb hx
  · have ne : c ≠ a := fun z => by rw [z, w0a] at hc; cases hc
    rw [cutAt_ne ne]
    exact S.ok.al c (S.w0 c hc)
end
theorem defF {P : Program} {wd : World} {K : PySem.W.Frag} {mg : Str → Option Value} {base : Heap} {x : Str} {st : Stmt} {N ps : List Str} {k : Nat} {p : DSpF} (At : DefAt K mg x st ps)
    (S : FnScope N ps (defScope st)) (len : ∀ ds Q, p ds Q → ds.length = ps.length) (mp : MoPF p)
    (inside : ∀ (f : Addr) (cdv : Value) (A : Around) (outer : List Env) (s0 : Shared) (H : Hp) (E : XK) (w : Wd) (ds : List Da) (Q : List Da → Prop), Room k (A.deeper (envOfC x (defScope st) s0.heap.objs.size f cdv)) → A.guards = some [] → WOk w → p ds Q →
      ∃ t, PSsF (cxOf CX0 P wd K mg base N x (defScope st) f cdv A outer s0 H E).nox w (defBody st) t ∧ t { nx := fun _ => False, rt := fun _ => False, bk := fun _ => False, ct := fun _ => False, rf := Q } (startD N ds)) :
    CalldF P wd K mg base (k + 1) x ps p := by
  obtain ⟨f, fd, F, a, b⟩ := At.ex
  refine ⟨⟨f, fd, FunG.ok F S ?_ ?_, a, F.kp, b⟩, mp⟩
  · rintro vs H Q E ⟨g, W, ds, k1, dv, h⟩
    rw [dv.len]
    exact len _ _ h
  · rintro cdv A outer s0 H vs Q E room hG ⟨g, W, ds, k1, dv, h⟩
    obtain ⟨t, ht, hq⟩ := inside f cdv A outer s0 H E ⟨H, g, W⟩ ds _ room hG (fun a ha => k1.al a ha) h
    refine ⟨_, ht.ps, W, fun _ _ => False, startD N ds, start_stt k1 dv, ht.mo { nx := fun _ => False, rt := fun _ => False, bk := fun _ => False, ct := fun _ => False, rf := NewL K g W H Q } _ _ ⟨⟨fun _ (q : False) => q.elim, fun _ (q : False) => q.elim, fun _ (q : False) => q.elim, fun _ (q : False) => q.elim⟩, fun ds q => q⟩ hq⟩

/-! ### two new lists at once -/
section
variable {X : Cx} {w : Wd} {a b : Expr} {pos : Pos}
end
end Pd
/-! Own lists by insert; dicts: their items, their keys sorted, made of pairs. -/
namespace Pd
open PySem PySem.Spec PyProof.Rows L2 LiI
section
variable {X : Cx} {w : Wd} {e f : Expr} {es : List Expr} {te ta tb : TDE} {t : TDA} {pos p : Pos}
/-! ### xs.insert(i, e) -/
/-! ### list(d.items()) -/
/-! ### dict(a list of pairs of any making) -/
/-! ### sorted(d) -/
end
end Pd
/-! Lists of lists and dicts of one's own: made, and changed within. -/
namespace Pd
open PySem PySem.Spec PyProof.Rows L2
section
variable {K : PySem.W.Frag} {w : Wd} {W : Addr → Bool} {own : Ow} {r : En} {σ : L2.St} {H H' : Hp}
/-- a slot is no longer known -/
theorem Stt.drop (S : Stt K w W own r σ H) (i : Nat) : Stt K w W own (r.set i .no) σ H := by
  refine ⟨S.ok, S.base, S.w0, S.g0, S.wN, S.oW, S.inj, by rw [List.length_set]; exact S.len, fun j u h n => ?_⟩
  by_cases hj : j = i
  · subst hj
    have hl : j < r.length := by
      have := (List.getElem?_eq_some_iff.mp h).1
      rwa [List.length_set] at this
    rw [List.getElem?_set_self hl] at h
    cases h
    exact absurd rfl n
  · rw [List.getElem?_set_ne (Ne.symm hj)] at h
    exact S.sl j u h n
end
/-! ### for x in xs: x.append(c) -/
section
variable {X : Cx} {w : Wd}
/-! ### xs.append(e), of such a list -/
end
/-! ### new things -/
open Classical in
/-- of lists and dicts the new ones alone -/
noncomputable def newM (H Hh : Hp) : Hp := fun a => if H a = none then Hh a else nom (Hh a)
theorem newM_new {H Hh : Hp} {a : Addr} (h : H a = none) : newM H Hh a = Hh a := if_pos h
theorem newM_old {H Hh : Hp} {a : Addr} (h : H a ≠ none) : newM H Hh a = nom (Hh a) := if_neg h
theorem newM_le {H Hh : Hp} : Sm (newM H Hh) Hh := fun a o z => by
  by_cases q : H a = none
  · rw [newM_new q] at z; exact z
  · rw [newM_old q] at z; exact (nom_some z).1
theorem newM_up {H H' Hh Hh' : Hp} (h1 : ∀ a, H' a = none → H a = none) (h2 : Sm Hh Hh') : Sm (newM H' Hh) (newM H Hh') := fun a o z => by
  by_cases q' : H' a = none
  · rw [newM_new q'] at z
    rw [newM_new (h1 a q')]
    exact h2 a o z
  · rw [newM_old q'] at z
    obtain ⟨z1, z2⟩ := nom_some z
    by_cases q : H a = none
    · rw [newM_new q]
      exact h2 a o z1
    · rw [newM_old q, h2 a o z1]
      exact z2
/-- a new value: its lists and dicts are new -/
def AftN (K : PySem.W.Frag) (g : Gd) (W : Addr → Bool) (H : Hp) (Q : VK) (d : Da) : Prop := ∀ v H', Ext g H H' → OkW K g W H' → Dv K g (newM H (hid W H')) v d → Q v H'
/-- a new list of new things -/
def NewR (K : PySem.W.Frag) (g : Gd) (W : Addr → Bool) (H : Hp) (Q : VK) (ds : List Da) : Prop := ∀ p xs H1, Ext g H H1 → OkW K g W H1 → H1 p = none → DvAll K g (newM H (hid W H1)) xs ds → Q (.ref p) (upd H1 p (.lst xs))
structure PVd (X : Cx) (w : Wd) (e : Expr) (t : TDE) : Prop where
  pe : PE X e (fun σ H Q => ∃ W own r, Stt X.K w W own r σ H ∧ t r (AftN X.K w.g W H Q))
  mo : ∀ r Q Q', (∀ d, Q d → Q' d) → t r Q → t r Q'
structure PNd (X : Cx) (w : Wd) (e : Expr) (t : TDA) : Prop where
  pe : PE X e (fun σ H Q => ∃ W own r, Stt X.K w W own r σ H ∧ t r (NewR X.K w.g W H Q))
  mo : ∀ r Q Q', (∀ ds, Q ds → Q' ds) → t r Q → t r Q'
theorem Ext.none {g : Gd} {K : PySem.W.Frag} {W : Addr → Bool} {H H' : Hp} (e : Ext g H H') (k : OkW K g W H') {a : Addr} (h : H' a = none) : H a = none := by
  cases q : H a with
  | none => rfl
  | some o =>
    by_cases z : Bd g a
    · obtain ⟨u, y⟩ := k.al a (k.gW a z)
      rw [h] at y; cases y
    · have := e a o z q
      rw [h] at this; cases this
theorem AftN.then {K : PySem.W.Frag} {g : Gd} {W : Addr → Bool} {H H' : Hp} {Q : VK} {d : Da} (h : AftN K g W H Q d) (e : Ext g H H') (k : OkW K g W H') : AftN K g W H' Q d := fun v H2 e2 k2 dv => h v H2 (e.trans e2) k2 (Dv.mono (newM_up (fun a ha => e.none k ha) fun _ _ z => z) _ _ dv)
section
variable {X : Cx} {w : Wd} {e : Expr} {es : List Expr} {pos : Pos}
end
end Pd
/-! Dict comprehensions; defs that return new things. -/
namespace Pd
open PySem PySem.Spec PyProof.Rows L2
/-! ### a dict that grows at D -/
structure GrD (K : PySem.W.Frag) (g : Gd) (W : Addr → Bool) (H1 : Hp) (D : Addr) (H' : Hp) (ad : List (Key × Da)) : Prop where
  ext : Ext g H1 H'
  bag : BagI K g (hideD W D) H'
  at_ : ∃ av, H' D = some (.dK av) ∧ KvAll K g (hid (hideD W D) H') av ad
theorem KvAll.len {K : PySem.W.Frag} {g : Gd} {H : Hp} : ∀ {us : List (Key × V)} {kvs : List (Key × Da)}, KvAll K g H us kvs → us.length = kvs.length
  | _, _, .nil => rfl
  | _, _, .cons _ t => by rw [List.length_cons, List.length_cons, t.len]
section
variable {K : PySem.W.Frag} {g : Gd} {W : Addr → Bool} {H H' H1 : Hp} {D : Addr} {ad : List (Key × Da)}
theorem GrD.go (G : GrD K g W H1 D H ad) (gne : ¬ Bd g D) (gW : ∀ a, Bd g a → hideD W D a = true) (e : Ext g H H') (b : BagI K g (hideD W D) H') : GrD K g W H1 D H' ad := by
  obtain ⟨av, h1, h2⟩ := G.at_
  exact ⟨G.ext.trans e, b, av, e D _ gne h1, KvAll.mono (e.hid gW) _ _ h2⟩
theorem GrD.put (G : GrD K g W H1 D H ad) (hD : H1 D = none) (gne : ¬ Bd g D) (k : Key) {v : V} {y : Da} (d : Dv K g (hid (hideD W D) H) v y) : ∃ av, H D = some (.dK av) ∧ av.length = ad.length ∧ GrD K g W H1 D (upd H D (.dK (putK av k v))) (putD ad k y) := by
  obtain ⟨av, h1, h2⟩ := G.at_
  refine ⟨av, h1, h2.len, ⟨fun b o nb hb => ?_, fun a xs ha hx => ?_⟩, G.bag.upd gne hideD_at (fun φ z => by rw [h1] at z; cases z), putK av k v, upd_same, by rw [hidD_upd]; exact h2.put d⟩
  · rw [upd_ne (ne_of_none hb hD)]
    exact G.ext b o nb hb
  · have ne : a ≠ D := fun z => gne (.inl (z ▸ ha))
    rw [upd_ne ne]
    exact G.ext.last a xs ha hx
theorem GrD.new (G : GrD K g W H1 D H ad) (hD : H1 D = none) (k : OkW K g W H1) : ∃ xs Hm, Ext g H1 Hm ∧ OkW K g W Hm ∧ Hm D = none ∧ KvAll K g (hid W Hm) xs ad ∧ H = upd Hm D (.dK xs) := by
  obtain ⟨av, h1, h2⟩ := G.at_
  have gne : ¬ Bd g D := fun z => by
    obtain ⟨o, q⟩ := k.al D (k.gW D z)
    rw [hD] at q; cases q
  have WD : W D = false := by
    cases y : W D with
    | false => rfl
    | true => obtain ⟨o, q⟩ := k.al D y; rw [hD] at q; cases q
  have eq : hid (hideD W D) H = hid W (cutAt D H) := by
    funext b
    unfold hid
    by_cases z : b = D
    · subst z
      rw [hideD_at, if_pos rfl, WD, if_neg Bool.false_ne_true, cutAt_same]
    · rw [hideD_ne z, cutAt_ne z]
  refine ⟨av, cutAt D H, ⟨fun b o nb hb => ?_, fun a xs ha hx => ?_⟩, ⟨(G.bag.cut gne hideD_at (fun φ z => by rw [h1] at z; cases z)).less (fun a h => hideD_le h), k.gW, fun a ha => ?_⟩, cutAt_same, by rw [← eq]; exact h2, ?_⟩
  · rw [cutAt_ne (ne_of_none hb hD)]
    exact G.ext b o nb hb
  · have ne : a ≠ D := fun z => gne (.inl (z ▸ ha))
    obtain ⟨ys, q1, q2⟩ := G.ext.last a xs ha hx
    exact ⟨ys, by rw [cutAt_ne ne]; exact q1, q2⟩
  · have ne : a ≠ D := fun z => by rw [z, WD] at ha; cases ha
    rw [cutAt_ne ne]
    by_cases y : Bd g a
    · exact G.bag.al y
    · obtain ⟨o, q⟩ := k.al a ha
      exact ⟨o, G.ext a o y q⟩
  · funext b
    by_cases z : b = D
    · rw [z, h1, upd_same]
    · rw [upd_ne z, cutAt_ne z]
end
/-- what a new dict must give -/
def NewD (K : PySem.W.Frag) (g : Gd) (W : Addr → Bool) (H : Hp) (Q : VK) (ds : List (Key × Da)) : Prop := ∀ p us H1, Ext g H H1 → OkW K g W H1 → H1 p = none → KvAll K g (hid W H1) us ds → Q (.ref p) (upd H1 p (.dK us))
abbrev TDK := En → (List (Key × Da) → Prop) → Prop
structure PDd (X : Cx) (w : Wd) (e : Expr) (t : TDK) : Prop where
  pe : PE X e (fun σ H Q => ∃ W own r, Stt X.K w W own r σ H ∧ t r (NewD X.K w.g W H Q))
  mo : ∀ r Q Q', (∀ ds, Q ds → Q' ds) → t r Q → t r Q'
section
variable {K : PySem.W.Frag} {w : Wd}
end
section
variable {X : Cx} {w : Wd} {e : Expr} {es : List Expr} {pos : Pos}
/-- a new dict as a datum -/
theorem PDd.ped {t : TDK} (h : PDd X w e t) : PEd X w e (fun r Q => t r fun ds => Q (.dct ds)) := by
  refine ⟨weE h.pe ?_, fun r Q Q' q z => h.mo _ _ _ (fun ds z => q _ z) z⟩
  rintro σ H Q ⟨W, own, r, S, z⟩
  refine ⟨W, own, r, S, h.mo _ _ _ (fun ds q p us H1 e1 k1 np dv => ?_) z⟩
  obtain ⟨n1, n2, n3, n4⟩ := k1.new (o := .dK us) np
  exact q _ _ (e1.trans n1) n2 (.dct n4 (KvAll.mono n3 _ _ dv))
def noLk : List (Key × Da) → Bool
  | [] => true
  | (_, d) :: ds => noL d && noLk ds
theorem KvAll.sees {K : PySem.W.Frag} {g g' : Gd} {H H' : Hp} (e : Sees H H') : ∀ {kvs : List (Key × Da)} {us : List (Key × V)}, noLk kvs = true → KvAll K g H us kvs → KvAll K g' H' us kvs
  | [], _, _, h => by cases h; exact .nil
  | (k, d) :: kvs, _, n, h => by
    rw [noLk, Bool.and_eq_true] at n
    cases h with
    | cons h1 h2 => exact .cons (Dv.sees e d _ n.1 h1) (KvAll.sees e n.2 h2)
end
end Pd
/-! repr of data of all sorts; lists of dicts compared. -/
namespace Pd
open PySem PySem.Spec PyProof.Rows L2
mutual
def toX : Da → PyData
  | .non => .none
  | .bl b => .bool b
  | .int i => .int i
  | .str x => .str x
  | .lst xs => .list (toXs xs)
  | .tup xs => .tuple (toXs xs)
  | .tpw xs => .tuple (toXs xs)
  | .dct kvs => .dict (toXk kvs)
  | .bag => .none
  | .raw _ => .none
  | .fix _ => .none
def toXs : List Da → List PyData
  | [] => []
  | x :: xs => toX x :: toXs xs
def toXk : List (Key × Da) → List (PyData × PyData)
  | [] => []
  | (k, x) :: xs => (keyP k, toX x) :: toXk xs
end
mutual
def canX : Da → Bool
  | .non => true
  | .bl _ => true
  | .int _ => true
  | .str _ => true
  | .lst xs => canXs xs
  | .tup xs => canXs xs
  | .tpw xs => canXs xs
  | .dct kvs => canXk kvs
  | .bag => false
  | .raw _ => false
  | .fix _ => false
def canXs : List Da → Bool
  | [] => true
  | x :: xs => canX x && canXs xs
def canXk : List (Key × Da) → Bool
  | [] => true
  | (_, x) :: xs => canX x && canXk xs
end
theorem keys_readsX {P : Program} {wd : World} {h : Heap} : ∀ {es : List DictEntry} {us : List (Key × Value)} {kds : List (Key × Da)}, Pairs (mixKind P wd) es us → us.map (·.1) = kds.map (·.1) → ReadsAll h (es.map (·.key)) ((toXk kds).map (·.1)) []
  | _, _, [], .nil, _ => by rw [toXk]; exact .nil
  | _, _, _ :: _, .nil, e => by cases e
  | _, _, [], .cons _ _ _, e => by cases e
  | _, _, (k, x) :: kds, .cons (e := en) (kv := kv) h1 h2 h3, e => by
    rw [List.map_cons, List.map_cons] at e
    injection e with e1 e2
    have t := keys_readsX (h := h) h3 e2
    rw [toXk, List.map_cons, List.map_cons]
    have hk : keyIs kv.1 en.key = true := h1
    rw [e1] at hk
    rcases keyIs_shape hk with ⟨i, t0, q1, q2⟩ | ⟨y, t0, q1, q2⟩
    · have q1' : k = .inl i := q1
      rw [q2, q1']
      exact ReadsAll.cons (as := []) (bs := []) (Reads.int i t0) t
    · have q1' : k = .inr y := q1
      rw [q2, q1']
      exact ReadsAll.cons (as := []) (bs := []) (Reads.str y t0) t
section
variable {X : Cx} {pins : List (Addr × Obj)} {σ : L2.St} {H : Hp} {s : Shared} {g : Gd} {Hh : Hp}
mutual
theorem Dv.readsX (I : Inv X pins σ H s) (hb : ∃ o, X.base.get? sysModules = some o) (sm : Sm Hh H) : ∀ (d : Da) (v : V) (u : Value), Dv X.K g Hh v d → canX d = true → RelV v u → ∃ as, Reads s.heap u (toX d) as ∧ sysModules ∉ as
  | .non, _, _, h, _, r => by cases h; cases r; exact ⟨[], by rw [toX]; exact .none, List.not_mem_nil⟩
  | .bl b, _, _, h, _, r => by cases h; cases r; exact ⟨[], by rw [toX]; exact .bool b, List.not_mem_nil⟩
  | .int i, _, _, h, _, r => by cases h; obtain ⟨t, rfl⟩ := r; exact ⟨[], by rw [toX]; exact .int i t, List.not_mem_nil⟩
  | .str x, _, _, h, _, r => by cases h; obtain ⟨t, rfl⟩ := r; exact ⟨[], by rw [toX]; exact .str x t, List.not_mem_nil⟩
  | .lst ds, _, _, h, c, r => by
    rw [canX] at c
    cases h with
    | @lst a xs _ h1 h2 =>
      cases r
      have ha := sm _ _ h1
      obtain ⟨its, rv, hl, hz⟩ := I.list (SqL.of ha)
      obtain ⟨_, its2, n, rv2, ho⟩ := (show ObjOk X.prog X.w H s.heap a (.lst xs) from I.hok a _ ha)
      obtain ⟨as, q1, q2⟩ := DvAll.readsX I hb sm ds _ its2 h2 c rv2
      refine ⟨a :: as, by rw [toX]; exact .list ho rfl rfl (by simpa using q1), fun z => ?_⟩
      rcases List.mem_cons.mp z with z | z
      · obtain ⟨o, q⟩ := hb
        have := (I.bs _ _ q).2
        rw [z, ha] at this
        cases this
      · exact q2 z
  | .tup ds, _, _, h, c, r => by
    rw [canX] at c
    cases h with
    | tup h1 h2 =>
      cases r
      obtain ⟨its, rv, ⟨o, ho, hc, n, hd⟩, _⟩ := I.tuple (sqt_mono sm h1.sq)
      obtain ⟨as, q1, q2⟩ := DvAll.readsX I hb sm ds _ its h2 c rv
      exact ⟨as, by rw [toX]; exact .tuple ho hc hd q1, q2⟩
  | .tpw ds, _, _, h, c, r => by
    rw [canX] at c
    cases h with
    | tpw h1 h2 =>
      cases r
      obtain ⟨its, rv, ⟨o, ho, hc, n, hd⟩, _⟩ := I.tuple (sqt_mono sm h1)
      obtain ⟨as, q1, q2⟩ := DvAll.readsX I hb sm ds _ its h2 c rv
      exact ⟨as, by rw [toX]; exact .tuple ho hc hd q1, q2⟩
  | .dct kds, _, _, h, c, r => by
    rw [canX] at c
    cases h with
    | @dct a kvs _ h1 h2 =>
      cases r
      obtain ⟨_, low, us, kv, o, es, ep, ho, hex, hd, _, hp, _⟩ := (show ObjOk X.prog X.w H s.heap a (.dK kvs) from I.hok a _ (sm _ _ h1))
      obtain ⟨bs, q1, q2, q3⟩ := KvAll.readsX I hb sm kds kvs us h2 c kv
      refine ⟨a :: ([] ++ bs), ?_, fun z => ?_⟩
      · rw [toX]
        have k1 := keys_readsX (h := s.heap) hp q3
        have k2 := pairs_vals hp
        exact Reads.dict (as := []) (bs := bs) ho hex.1 hd k1 (by rw [k2]; exact q1)
      · rcases List.mem_cons.mp z with z | z
        · rw [← z] at low
          simp at low
        · exact q2 z
  | .bag, _, _, _, c, _ => by rw [canX] at c; cases c
  | .raw _, _, _, _, c, _ => by rw [canX] at c; cases c
  | .fix _, _, _, _, c, _ => by rw [canX] at c; cases c
theorem DvAll.readsX (I : Inv X pins σ H s) (hb : ∃ o, X.base.get? sysModules = some o) (sm : Sm Hh H) : ∀ (ds : List Da) (vs : List V) (us : List Value), DvAll X.K g Hh vs ds → canXs ds = true → Vals vs us → ∃ as, ReadsAll s.heap us (toXs ds) as ∧ sysModules ∉ as
  | [], _, _, h, _, r => by cases h; cases r; exact ⟨[], by rw [toXs]; exact .nil, List.not_mem_nil⟩
  | d :: ds, _, _, h, c, r => by
    rw [canXs, Bool.and_eq_true] at c
    cases h with
    | cons h1 h2 =>
      cases r with
      | cons r1 r2 =>
        obtain ⟨as, q1, n1⟩ := Dv.readsX I hb sm d _ _ h1 c.1 r1
        obtain ⟨bs, q2, n2⟩ := DvAll.readsX I hb sm ds _ _ h2 c.2 r2
        exact ⟨as ++ bs, by rw [toXs]; exact .cons q1 q2, fun z => (List.mem_append.mp z).elim n1 n2⟩
theorem KvAll.readsX (I : Inv X pins σ H s) (hb : ∃ o, X.base.get? sysModules = some o) (sm : Sm Hh H) : ∀ (kds : List (Key × Da)) (kvs : List (Key × V)) (us : List (Key × Value)), KvAll X.K g Hh kvs kds → canXk kds = true → KV kvs us → ∃ as, ReadsAll s.heap (us.map (·.2)) ((toXk kds).map (·.2)) as ∧ sysModules ∉ as ∧ us.map (·.1) = kds.map (·.1)
  | [], _, _, h, _, r => by cases h; cases r; exact ⟨[], by rw [toXk]; exact .nil, List.not_mem_nil, rfl⟩
  | (k, d) :: kds, _, _, h, c, r => by
    rw [canXk, Bool.and_eq_true] at c
    cases h with
    | cons h1 h2 =>
      cases r with
      | cons r1 r2 =>
        obtain ⟨as, q1, n1⟩ := Dv.readsX I hb sm d _ _ h1 c.1 r1.2
        obtain ⟨bs, q2, n2, e2⟩ := KvAll.readsX I hb sm kds _ _ h2 c.2 r2
        exact ⟨as ++ bs, by rw [toXk]; exact .cons q1 q2, fun z => (List.mem_append.mp z).elim n1 n2, by rw [List.map_cons, List.map_cons, e2]; exact congrArg (· :: _) r1.1.symm⟩
end
end
/-! ### repr -/
def shwOkX (x : Da) : Prop := canX x = true ∧ (toX x).showable = true ∧ (toX x).depth ≤ 60 ∧ (toX x).shown.length ≤ sizeLine
section
variable {X : Cx} {w : Wd} {e : Expr} {es : List Expr} {t : TDA} {p pos : Pos}
end
/-! ### sizes of data of all sorts -/
structure SzX (d : Da) (n c : Nat) : Prop where
  can : canX d = true
  shw : (toX d).showable = true
  dep : (toX d).depth ≤ n
  len : (toX d).shown.length ≤ c
theorem SzX.up {d : Da} {n c n' c' : Nat} (h : SzX d n c) (h1 : n ≤ n') (h2 : c ≤ c') : SzX d n' c' := ⟨h.can, h.shw, Nat.le_trans h.dep h1, Nat.le_trans h.len h2⟩
theorem SzX.ok {d : Da} {n c : Nat} (h : SzX d n c) (hn : n ≤ 60) (hc : c ≤ 16777216) : shwOkX d := ⟨h.can, h.shw, Nat.le_trans h.dep hn, Nat.le_trans h.len (by rw [sizeLine_eq]; exact hc)⟩
mutual
theorem toX_toP : ∀ d : Da, canP d = true → toX d = toP d ∧ canX d = true
  | .non, _ => ⟨by rw [toX, toP], by rw [canX]⟩
  | .bl _, _ => ⟨by rw [toX, toP], by rw [canX]⟩
  | .int _, _ => ⟨by rw [toX, toP], by rw [canX]⟩
  | .str _, _ => ⟨by rw [toX, toP], by rw [canX]⟩
  | .lst xs, h => by rw [canP] at h; obtain ⟨a, b⟩ := toXs_toPs xs h; exact ⟨by rw [toX, toP, a], by rw [canX]; exact b⟩
  | .tup xs, h => by rw [canP] at h; obtain ⟨a, b⟩ := toXs_toPs xs h; exact ⟨by rw [toX, toP, a], by rw [canX]; exact b⟩
  | .tpw xs, h => by rw [canP] at h; obtain ⟨a, b⟩ := toXs_toPs xs h; exact ⟨by rw [toX, toP, a], by rw [canX]; exact b⟩
  | .dct _, h => by rw [canP] at h; cases h
  | .bag, h => by rw [canP] at h; cases h
  | .raw _, h => by rw [canP] at h; cases h
  | .fix _, h => by rw [canP] at h; cases h
theorem toXs_toPs : ∀ ds : List Da, canPs ds = true → toXs ds = toPs ds ∧ canXs ds = true
  | [], _ => ⟨by rw [toXs, toPs], by rw [canXs]⟩
  | d :: ds, h => by
    rw [canPs, Bool.and_eq_true] at h
    obtain ⟨a, b⟩ := toX_toP d h.1
    obtain ⟨c, e⟩ := toXs_toPs ds h.2
    exact ⟨by rw [toXs, toPs, a, c], by rw [canXs, b, e]; rfl⟩
end
theorem Sz.x {d : Da} {n c : Nat} (h : Sz d n c) : SzX d n c := by
  obtain ⟨a, b⟩ := toX_toP d h.can
  exact ⟨b, by rw [a]; exact h.shw, by rw [a]; exact h.dep, by rw [a]; exact h.len⟩
end Pd
/-! Lists of dicts compared; dicts within emptied; defs that return new things. -/
namespace Pd
open PySem PySem.Spec PyProof.Rows L2
/-! ### == of lists of dicts -/
section
variable {X : Cx} {w : Wd} {a b : Expr} {ta tb : TDE} {pos : Pos}
end
/-! ### for x in xs: x.clear(), of dicts -/
section
variable {X : Cx} {w : Wd}
end
end Pd
/-! Defs that return a new value, or a new list of new values. -/
namespace Pd
open PySem PySem.Spec PyProof.Rows L2
def liV (K : PySem.W.Frag) (p : DSp) : Sp := fun vs H Q _ => ∃ g W ds, OkW K g W H ∧ DvAll K g (hid W H) vs ds ∧ p ds (AftN K g W H Q)
def liR (K : PySem.W.Frag) (p : DSpF) : Sp := fun vs H Q _ => ∃ g W ds, OkW K g W H ∧ DvAll K g (hid W H) vs ds ∧ p ds (NewR K g W H Q)
structure CalldV (P : Program) (wd : World) (K : PySem.W.Frag) (mg : Str → Option Value) (base : Heap) (k : Nat) (x : Str) (ps : List Str) (p : DSp) : Prop where
  ex : ∃ f fd, FnG P wd K mg base CX0 k f fd ps (liV K p) ∧ mg x = some (.ref f) ∧ PySem.W.keepIn K (.ref f) = true ∧ Binds K fd ps []
  mp : MoP p
structure CalldR (P : Program) (wd : World) (K : PySem.W.Frag) (mg : Str → Option Value) (base : Heap) (k : Nat) (x : Str) (ps : List Str) (p : DSpF) : Prop where
  ex : ∃ f fd, FnG P wd K mg base CX0 k f fd ps (liR K p) ∧ mg x = some (.ref f) ∧ PySem.W.keepIn K (.ref f) = true ∧ Binds K fd ps []
  mp : MoPF p
section
variable {P : Program} {wd : World} {K : PySem.W.Frag} {mg : Str → Option Value} {base : Heap}
theorem CalldV.up {j k : Nat} {x : Str} {ps : List Str} {p : DSp} (c : CalldV P wd K mg base j x ps p) (h : j ≤ k) : CalldV P wd K mg base k x ps p := by
  obtain ⟨⟨f, fd, F, a, b, d⟩, mp⟩ := c
  exact ⟨⟨f, fd, F.up h, a, b, d⟩, mp⟩
theorem CalldR.up {j k : Nat} {x : Str} {ps : List Str} {p : DSpF} (c : CalldR P wd K mg base j x ps p) (h : j ≤ k) : CalldR P wd K mg base k x ps p := by
  obtain ⟨⟨f, fd, F, a, b, d⟩, mp⟩ := c
  exact ⟨⟨f, fd, F.up h, a, b, d⟩, mp⟩
theorem AftN.aft {g : Gd} {W : Addr → Bool} {H : Hp} {Q : VK} {d : Da} (h : Aft K g W H Q d) : AftN K g W H Q d := fun v H' e k dv => h v H' e k (Dv.mono newM_le _ _ dv)
theorem NewR.aft {g : Gd} {W : Addr → Bool} {H : Hp} {Q : VK} {ds : List Da} (h : Aft K g W H Q (.lst ds)) : NewR K g W H Q ds := fun p xs H1 e1 k1 np dv => by
  obtain ⟨n1, n2, n3, n4⟩ := k1.new (o := .lst xs) np
  exact h _ _ (e1.trans n1) n2 (.lst n4 (DvAll.mono (fun a o z => n3 a o (newM_le a o z)) _ _ dv))
/-- as data -/
theorem CalldV.dat {k : Nat} {x : Str} {ps : List Str} {p : DSp} (c : CalldV P wd K mg base k x ps p) : Calld P wd K mg base k x ps p := by
  obtain ⟨⟨f, fd, F, a, b, d⟩, mp⟩ := c
  exact ⟨⟨f, fd, ⟨fun vs H Q E ⟨g, W, ds, k1, dv, h⟩ => F.many vs H Q E ⟨g, W, ds, k1, dv, mp _ _ _ (fun _ => AftN.aft) h⟩, fun A outer s0 H args us vs Q E room hG z bd rel ⟨g, W, ds, k1, dv, h⟩ => F.goes A outer s0 H args us vs Q E room hG z bd rel ⟨g, W, ds, k1, dv, mp _ _ _ (fun _ => AftN.aft) h⟩⟩, a, b, d⟩, mp⟩
theorem CalldR.dat {k : Nat} {x : Str} {ps : List Str} {p : DSpF} (c : CalldR P wd K mg base k x ps p) : Calld P wd K mg base k x ps (fun ds Q => p ds fun xs => Q (.lst xs)) := by
  obtain ⟨⟨f, fd, F, a, b, d⟩, mp⟩ := c
  exact ⟨⟨f, fd, ⟨fun vs H Q E ⟨g, W, ds, k1, dv, h⟩ => F.many vs H Q E ⟨g, W, ds, k1, dv, mp _ _ _ (fun _ => NewR.aft) h⟩, fun A outer s0 H args us vs Q E room hG z bd rel ⟨g, W, ds, k1, dv, h⟩ => F.goes A outer s0 H args us vs Q E room hG z bd rel ⟨g, W, ds, k1, dv, mp _ _ _ (fun _ => NewR.aft) h⟩⟩, a, b, d⟩, fun ds Q Q' q h => mp _ _ _ (fun xs => q _) h⟩
theorem NewR.then {g : Gd} {W : Addr → Bool} {H H' : Hp} {Q : VK} {ds : List Da} (h : NewR K g W H Q ds) (e : Ext g H H') (k : OkW K g W H') : NewR K g W H' Q ds := fun p xs H1 e1 k1 np dv => h p xs H1 (e.trans e1) k1 np (DvAll.mono (newM_up (fun a ha => e.none k ha) fun _ _ z => z) _ _ dv)
end
section
variable {X : Cx} {w : Wd} {e : Expr} {es : List Expr} {pos p : Pos}
/-! ### a written list of new values -/
def AftNA (K : PySem.W.Frag) (g : Gd) (W : Addr → Bool) (H : Hp) (Q : List V → Hp → Prop) (ds : List Da) : Prop := ∀ xs H', Ext g H H' → OkW K g W H' → DvAll K g (newM H (hid W H')) xs ds → Q xs H'
structure PNA (X : Cx) (w : Wd) (es : List Expr) (t : TDA) : Prop where
  pa : PA X es (fun σ H Q => ∃ W own r, Stt X.K w W own r σ H ∧ t r (AftNA X.K w.g W H Q))
  mo : ∀ r Q Q', (∀ ds, Q ds → Q' ds) → t r Q → t r Q'
end
/-! ### a def whose body returns a new value at once -/
end Pd
/-! The head of a law, the base told to hold the modules' dict. -/
namespace Pd
open PySem PySem.Spec PyProof.Rows L2
theorem _root_.PySem.Heap.NoSeer.mods' {h : Heap} (x : h.NoSeer) : ∃ mm, h.Ns sysModules mm := by
  obtain ⟨mm, a, _⟩ := x.mods
  exact ⟨mm, a⟩
section
variable {P : Program} {wd : World} {K : PySem.W.Frag} {mg mb : Str → Option Value} {k : Nat} {fa a : Addr} {fd : FuncData} {x : Str} {sp : Sp} {s1 : Shared} {us : List Value} {ns : List Int}
end
end Pd
/-! sorted(set(a list of whole numbers)). -/
namespace Pd
open PySem PySem.Spec PyProof.Rows L2
section
variable {X : Cx} {w : Wd} {e : Expr} {te : TDE} {pos : Pos}
end
end Pd
/-! name = [.. for .. for ..]. -/
namespace Pd
open PySem PySem.Spec PyProof.Rows L2
section
variable {X : Cx} {w : Wd} {pos : Pos}
end
/-! ### what a comprehension of two walks gives -/
end Pd
/-! Groups: a dict of one's own whose values are lists of one's own. -/
namespace Pd
open PySem PySem.Spec PyProof.Rows L2
section
variable {K : PySem.W.Frag} {w : Wd} {W : Addr → Bool} {own : Ow} {r : En} {σ : L2.St} {H H' : Hp}
/-- groups of things by numbers -/
structure Grp (K : PySem.W.Frag) (g : Gd) (W : Addr → Bool) (own : Ow) (s : Nat) (H : Hp) (D : Addr) (T : List (Int × Da)) (ks : List Int) (q : Int → Addr) : Prop where
  oD : own s D
  hD : H D = some (.dK (ks.map fun k => (Sum.inl k, V.ref (q k))))
  nd : ks.Nodup
  mem : ∀ k, k ∈ ks ↔ k ∈ T.map (·.1)
  at_ : ∀ k ∈ ks, own s (q k) ∧ q k ≠ D ∧ ∃ vs, H (q k) = some (.lst vs) ∧ DvAll K g (hid W H) vs ((T.filter fun p => p.1 == k).map (·.2))
  inj : ∀ k ∈ ks, ∀ k' ∈ ks, q k = q k' → k = k'
variable {g : Gd} {s : Nat} {D : Addr} {T : List (Int × Da)} {ks : List Int} {q : Int → Addr}
theorem Grp.ext (G : Grp K g W own s H D T ks q) (gW : ∀ a, Bd g a → W a = true) (og : ∀ a, own s a → ¬ Bd g a) (e : Ext g H H') : Grp K g W own s H' D T ks q :=
  ⟨G.oD, e D _ (og D G.oD) G.hD, G.nd, G.mem, fun k hk => by
    obtain ⟨h1, h2, vs, h3, h4⟩ := G.at_ k hk
    exact ⟨h1, h2, vs, e _ _ (og _ h1) h3, DvAll.mono (e.hid gW) _ _ h4⟩, G.inj⟩
theorem Grp.sub {own' : Ow} (G : Grp K g W own s H D T ks q) (h : ∀ a, own s a → own' s a) : Grp K g W own' s H D T ks q :=
  ⟨h _ G.oD, G.hD, G.nd, G.mem, fun k hk => by
    obtain ⟨h1, h2, h3⟩ := G.at_ k hk
    exact ⟨h _ h1, h2, h3⟩, G.inj⟩
theorem Grp.up {W' : Addr → Bool} (G : Grp K g W own s H D T ks q) (h : ∀ a o, own s a → H a = some o → H' a = some o) (sm : Sm (hid W H) (hid W' H')) : Grp K g W' own s H' D T ks q :=
  ⟨G.oD, h _ _ G.oD G.hD, G.nd, G.mem, fun k hk => by
    obtain ⟨h1, h2, vs, h3, h4⟩ := G.at_ k hk
    exact ⟨h1, h2, vs, h _ _ h1 h3, DvAll.mono sm _ _ h4⟩, G.inj⟩
theorem valV_ngrp {ks : List Int} {q : Int → Addr} {n : Int} (h : n ∉ ks) : valV (ks.map fun k => ((Sum.inl k : Key), V.ref (q k))) (Sum.inl n) = none := by
  induction ks with
  | nil => rfl
  | cons k ks ih =>
    rw [List.map_cons, valV_neg (fun z => h (by rw [Sum.inl.inj z]; exact List.mem_cons_self))]
    exact ih fun z => h (List.mem_cons_of_mem _ z)
/-- one more of a number that has a group -/
theorem Grp.more (G : Grp K g W own s H D T ks q) {n : Int} {d : Da} {v : V} {vs : List V} (hn : n ∈ ks) (hW : W (q n) = true) (hv : H (q n) = some (.lst vs)) (dv : Dv K g (hid W H) v d) :
    Grp K g W own s (upd H (q n) (.lst (vs ++ [v]))) D (T ++ [(n, d)]) ks q := by
  obtain ⟨_, nD, _⟩ := G.at_ n hn
  refine ⟨G.oD, by rw [upd_ne (Ne.symm nD)]; exact G.hD, G.nd, fun k => ?_, fun k hk => ?_, G.inj⟩
  · rw [List.map_append, List.mem_append, ← G.mem k]
    constructor
    · exact .inl
    · rintro (z | z)
      · exact z
      · rw [List.mem_singleton.mp z]; exact hn
  · obtain ⟨h1, h2, us, h3, h4⟩ := G.at_ k hk
    rw [hid_upd hW, List.filter_append, List.map_append]
    by_cases e : k = n
    · subst e
      rw [hv] at h3
      cases h3
      refine ⟨h1, h2, _, upd_same, ?_⟩
      have e2 : ([(k, d)].filter fun p => p.1 == k).map (·.2) = [d] := by simp
      rw [e2]
      exact h4.app (.cons dv .nil)
    · refine ⟨h1, h2, us, by rw [upd_ne fun z => e (G.inj k hk n hn z)]; exact h3, ?_⟩
      have e2 : ([(n, d)].filter fun p => p.1 == k).map (·.2) = [] := by
        rw [List.filter_cons_of_neg (by simpa using fun z => e z.symm)]
        rfl
      rw [e2, List.append_nil]
      exact h4
/-- the first of a number -/
theorem Grp.first (G : Grp K g W own s H D T ks q) {n : Int} {d : Da} {v : V} {p : Addr} (hn : n ∉ ks) (op : own s p) (np : p ≠ D) (nq : ∀ k ∈ ks, q k ≠ p) (hD : W D = true) (hp : W p = true) (dv : Dv K g (hid W H) v d) :
    Grp K g W own s (upd (upd H D (.dK (putK (ks.map fun k => ((Sum.inl k : Key), V.ref (q k))) (Sum.inl n) (.ref p)))) p (.lst [v])) D (T ++ [(n, d)]) (ks ++ [n]) (fun k => if k = n then p else q k) := by
  have eq : ∀ k ∈ ks, (if k = n then p else q k) = q k := fun k hk => if_neg fun (z : k = n) => hn (by rw [← z]; exact hk)
  have ep : putK (ks.map fun k => ((Sum.inl k : Key), V.ref (q k))) (Sum.inl n) (.ref p) = (ks ++ [n]).map fun k => ((Sum.inl k : Key), V.ref (if k = n then p else q k)) := by
    rw [putK_new _ (valV_ngrp hn), List.map_append]
    have e1 : (ks.map fun k => ((Sum.inl k : Key), V.ref (q k))) = ks.map fun k => ((Sum.inl k : Key), V.ref (if k = n then p else q k)) := List.map_congr_left fun k hk => by rw [eq k hk]
    rw [e1]
    show _ = _ ++ [(Sum.inl n, V.ref (if n = n then p else q n))]
    rw [if_pos rfl]
  have none_ : (T.filter fun x => x.1 == n) = [] := by
    rw [List.filter_eq_nil_iff]
    intro x hx z
    have : x.1 = n := by simpa using z
    exact hn ((G.mem n).mpr (List.mem_map.mpr ⟨x, hx, this⟩))
  have hh : hid W (upd (upd H D (.dK (putK (ks.map fun k => ((Sum.inl k : Key), V.ref (q k))) (Sum.inl n) (.ref p)))) p (.lst [v])) = hid W H := by rw [hid_upd hp, hid_upd hD]
  refine ⟨G.oD, by rw [upd_ne (Ne.symm np), upd_same, ep], ?_, fun k => ?_, fun k hk => ?_, fun k hk k' hk' => ?_⟩
  · rw [List.nodup_append]
    refine ⟨G.nd, by simp, fun a ha b hb z => hn ?_⟩
    rw [← List.mem_singleton.mp hb, ← z]
    exact ha
  · rw [List.map_append, List.mem_append, List.mem_append, ← G.mem k]
    rfl
  · rw [hh, List.filter_append, List.map_append]
    rcases List.mem_append.mp hk with z | z
    · obtain ⟨h1, h2, us, h3, h4⟩ := G.at_ k z
      have ne : k ≠ n := fun y => hn (y ▸ z)
      rw [eq k z]
      refine ⟨h1, h2, us, by rw [upd_ne (nq k z), upd_ne h2]; exact h3, ?_⟩
      have e2 : ([(n, d)].filter fun p => p.1 == k).map (·.2) = [] := by
        rw [List.filter_cons_of_neg (by simpa using fun z => ne z.symm)]
        rfl
      rw [e2, List.append_nil]
      exact h4
    · have e := List.mem_singleton.mp z
      subst e
      rw [if_pos rfl, none_]
      refine ⟨op, np, _, upd_same, ?_⟩
      have e2 : ([(k, d)].filter fun p => p.1 == k).map (·.2) = [d] := by simp
      rw [e2]
      exact .cons dv .nil
  · rcases List.mem_append.mp hk with z | z
    · rcases List.mem_append.mp hk' with z' | z'
      · rw [eq k z, eq k' z']
        exact G.inj k z k' z'
      · rw [eq k z, List.mem_singleton.mp z', if_pos rfl]
        exact fun y => absurd y (nq k z)
    · rcases List.mem_append.mp hk' with z' | z'
      · rw [eq k' z', List.mem_singleton.mp z, if_pos rfl]
        exact fun y => absurd y.symm (nq k' z')
      · intro _
        rw [List.mem_singleton.mp z, List.mem_singleton.mp z']
end
end Pd
/-! A body that made groups returns: what is new is data again, and known to be new. -/
namespace Pd
open PySem PySem.Spec PyProof.Rows L2
section
variable {K : PySem.W.Frag} {w : Wd} {W : Addr → Bool} {own : Ow} {r : En} {σ : L2.St} {H : Hp}
end
end Pd
/-! Texts told apart. -/
namespace Pd
open PySem PySem.Spec PyProof.Rows L2
end Pd
/-! Instances that never change once they are made: as data; their attributes, methods, making. -/
namespace Pd
open PySem PySem.Spec PyProof.Rows L2
/-! ### calls with the guards told -/
section
variable {X : Cx} {CX : CXT} {k : Nat} {f C : Addr} {fd : FuncData} {ps : List Str} {sp : Sp} {dvs : List V} {ds : List Value} {E : XK} {x m : Str} {p pos apos : Pos} {e o : Expr} {es : List Expr} {ta : TE} {t : TA}
end
/-! ### an instance as a datum -/
/-- its attributes are these data -/
inductive Flds (K : PySem.W.Frag) (H : Hp) : List (Str × V) → List (Str × Da) → Prop
  | nil : Flds K H [] []
  | cons {x : Str} {v : V} {d : Da} {us : List (Str × V)} {fs : List (Str × Da)} : Dv K Gd.no H v d → Flds K H us fs → Flds K H ((x, v) :: us) ((x, d) :: fs)
def noLf : List (Str × Da) → Bool
  | [] => true
  | (_, d) :: fs => noL d && noLf fs
theorem Flds.sees {K : PySem.W.Frag} {H H' : Hp} (e : Sees H H') : ∀ {us : List (Str × V)} {fs : List (Str × Da)}, noLf fs = true → Flds K H us fs → Flds K H' us fs
  | _, _, _, .nil => .nil
  | _, _, n, .cons h t => by
    rw [noLf, Bool.and_eq_true] at n
    exact .cons (Dv.sees e _ _ n.1 h) (Flds.sees e n.2 t)
theorem Flds.get {K : PySem.W.Frag} {H : Hp} {f : Str} : ∀ {us : List (Str × V)} {fs : List (Str × Da)} {d : Da}, Flds K H us fs → fs.lookup f = some d → ∃ v, us.lookup f = some v ∧ Dv K Gd.no H v d
  | _, _, _, .nil, h => by cases h
  | _, _, d, .cons (x := x) (v := v) h t, e => by
    rw [List.lookup_cons] at e
    rw [List.lookup_cons]
    cases q : f == x with
    | true =>
      rw [q] at e
      cases e
      exact ⟨v, rfl, h⟩
    | false =>
      rw [q] at e
      exact Flds.get t e
theorem Flds.no {K : PySem.W.Frag} {H : Hp} {f : Str} : ∀ {us : List (Str × V)} {fs : List (Str × Da)}, Flds K H us fs → fs.lookup f = none → us.lookup f = none
  | _, _, .nil, _ => rfl
  | _, _, .cons (x := x) h t, e => by
    rw [List.lookup_cons] at e
    rw [List.lookup_cons]
    cases q : f == x with
    | true => rw [q] at e; cases e
    | false =>
      rw [q] at e
      exact Flds.no t e
section
variable {X : Cx} {w : Wd} {o e : Expr} {es : List Expr} {to : TDE} {t : TDA} {f m : Str} {pos apos : Pos}
/-- a method whose promise is known -/
structure CalldM (P : Program) (wd : World) (K : PySem.W.Frag) (mg : Str → Option Value) (base : Heap) (k : Nat) (C : Addr) (m : Str) (ps : List Str) (p : DSp) : Prop where
  ex : ∃ f fd, FnG P wd K mg base CX0 k f fd ps (liP K p) ∧ Meth K C m f ∧ Binds K fd ps []
  cl : Cls K C
  mp : MoP p
end
end Pd
/-! An instance is made: C(..) with an own __init__ that sets its attributes. -/
namespace Pd
open PySem PySem.Spec PyProof.Rows L2
mutual
/-- no instance within -/
def noF : Da → Bool
  | .fix _ => false
  | .lst xs => noFs xs
  | .tup xs => noFs xs
  | .tpw xs => noFs xs
  | .dct kvs => noFk kvs
  | .non => true
  | .bl _ => true
  | .int _ => true
  | .str _ => true
  | .bag => true
  | .raw _ => true
def noFs : List Da → Bool
  | [] => true
  | x :: xs => noF x && noFs xs
def noFk : List (Key × Da) → Bool
  | [] => true
  | (_, x) :: xs => noF x && noFk xs
end
/-- all but what is at x stays -/
def But (x : Addr) (H H' : Hp) : Prop := ∀ a o, a ≠ x → H a = some o → H' a = some o
section
variable {K : PySem.W.Frag} {g : Gd} {H H' : Hp} {x : Addr}
theorem not_ins {a : Addr} {o : HO} (hx : ∃ C dx us, H x = some (.ins C dx us)) (h : H a = some o) (n : ∀ C dx us, o ≠ .ins C dx us) : a ≠ x := fun z => by
  obtain ⟨C, dx, us, q⟩ := hx
  rw [z, q] at h
  exact n C dx us (Option.some.inj h).symm
theorem sqt_but {a : Addr} {xs : List V} (hx : ∃ C dx us, H x = some (.ins C dx us)) (e : But x H H') (h : SqT K H a xs) : SqT K H' a xs := by
  rcases h with (h | ⟨o, h⟩) | h
  · exact .inl (.inl (e _ _ (not_ins hx h fun _ _ _ z => by cases z) h))
  · exact .inl (.inr ⟨o, e _ _ (not_ins hx h fun _ _ _ z => by cases z) h⟩)
  · exact .inr h
theorem tups_but {a : Addr} {xs : List V} (hx : ∃ C dx us, H x = some (.ins C dx us)) (e : But x H H') (h : TupS K H a xs) : TupS K H' a xs := by
  rcases h with ⟨o, h, n⟩ | h
  · exact .inl ⟨o, e _ _ (not_ins hx h fun _ _ _ z => by cases z) h, n⟩
  · exact .inr h
mutual
theorem Dv.but (hx : ∃ C dx us, H x = some (.ins C dx us)) (e : But x H H') : ∀ (d : Da) (v : V), noF d = true → Dv K g H v d → Dv K g H' v d
  | .non, _, _, h => by cases h; exact .non
  | .bl _, _, _, h => by cases h; exact .bl _
  | .int _, _, _, h => by cases h; exact .int _
  | .str _, _, _, h => by cases h; exact .str _
  | .lst ds, _, n, h => by
    rw [noF] at n
    cases h with
    | lst h1 h2 => exact .lst (e _ _ (not_ins hx h1 fun _ _ _ z => by cases z) h1) (DvAll.but hx e ds _ n h2)
  | .tup ds, _, n, h => by
    rw [noF] at n
    cases h with
    | tup h1 h2 => exact .tup (tups_but hx e h1) (DvAll.but hx e ds _ n h2)
  | .tpw ds, _, n, h => by
    rw [noF] at n
    cases h with
    | tpw h1 h2 => exact .tpw (sqt_but hx e h1) (DvAll.but hx e ds _ n h2)
  | .dct ds, _, n, h => by
    rw [noF] at n
    cases h with
    | dct h1 h2 => exact .dct (e _ _ (not_ins hx h1 fun _ _ _ z => by cases z) h1) (KvAll.but hx e ds _ n h2)
  | .bag, _, _, h => by
    cases h with
    | bag q => exact .bag q
  | .raw _, _, _, h => by cases h; exact .raw
  | .fix _, _, n, _ => by rw [noF] at n; cases n
theorem DvAll.but (hx : ∃ C dx us, H x = some (.ins C dx us)) (e : But x H H') : ∀ (ds : List Da) (vs : List V), noFs ds = true → DvAll K g H vs ds → DvAll K g H' vs ds
  | [], _, _, h => by cases h; exact .nil
  | d :: ds, _, n, h => by
    rw [noFs, Bool.and_eq_true] at n
    cases h with
    | cons h1 h2 => exact .cons (Dv.but hx e d _ n.1 h1) (DvAll.but hx e ds _ n.2 h2)
theorem KvAll.but (hx : ∃ C dx us, H x = some (.ins C dx us)) (e : But x H H') : ∀ (ds : List (Key × Da)) (vs : List (Key × V)), noFk ds = true → KvAll K g H vs ds → KvAll K g H' vs ds
  | [], _, _, h => by cases h; exact .nil
  | (k, d) :: ds, _, n, h => by
    rw [noFk, Bool.and_eq_true] at n
    cases h with
    | cons h1 h2 => exact .cons (Dv.but hx e d _ n.1 h1) (KvAll.but hx e ds _ n.2 h2)
end
end
/-- a raise that is never reached -/
theorem psd_raise {X : Cx} {w : Wd} {e c : Option Expr} {pos : Pos} : PSd X w (.Raise e c pos) (fun _ _ => False) :=
  ⟨⟨fun _ _ _ _ _ _ ⟨_, _, _, _, h⟩ => h.elim⟩, fun _ _ _ _ h => h.elim⟩
/-- what an __init__ makes of a new instance -/
def liI0 (K : PySem.W.Frag) (C : Addr) (p : List Da → (List (Str × Da) → Prop) → Prop) : Sp := fun vs H Q _ => ∃ (g : Gd) (W : Addr → Bool) (ds : List Da) (x dx : Addr) (vs' : List V), vs = .ref x :: vs' ∧ H x = some (.ins C dx []) ∧ W x = false ∧ OkW K g W H ∧ DvAll K g (hid W H) vs' ds ∧
  p ds fun fs => ∀ us H', Ext g (cutAt x H) (cutAt x H') → OkW K g W H' → H' x = some (.ins C dx us) → Flds K (hid W H') us fs → Q .non H'
structure CalldI (P : Program) (wd : World) (K : PySem.W.Frag) (mg : Str → Option Value) (base : Heap) (k : Nat) (c : Str) (C : Addr) (ps : List Str) (p : List Da → (List (Str × Da) → Prop) → Prop) : Prop where
  ex : ∃ f fd, FnG P wd K mg base CX0 k f fd ps (liI0 K C p) ∧ Mk K C f ∧ mg c = some (.ref C) ∧ Binds K fd ps []
  mp : ∀ ds Q Q', (∀ fs, Q fs → Q' fs) → p ds Q → p ds Q'
section
variable {X : Cx} {w : Wd} {e : Expr} {es : List Expr} {t : TDA} {pos q : Pos}
end
end Pd
/-! An __init__ that looks at what it is handed, then sets two attributes. -/
namespace Pd
open PySem PySem.Spec PyProof.Rows L2
end Pd
/-! Methods by their bodies; properties read. -/
namespace Pd
open PySem PySem.Spec PyProof.Rows L2
/-- a method of the class at C, as the text has it -/
structure MethAt (K : PySem.W.Frag) (C : Addr) (m qual : Str) (st : Stmt) (ps : List Str) : Prop where
  ex : ∃ f fd, Fun K m qual st f fd ∧ Meth K C m f ∧ Binds K fd ps []
/-- a property whose getter's promise is known -/
structure CalldP (P : Program) (wd : World) (K : PySem.W.Frag) (mg : Str → Option Value) (base : Heap) (k : Nat) (C : Addr) (m : Str) (p : DSp) : Prop where
  ex : ∃ a f fd, FnG P wd K mg base CX0 k f fd ["self"] (liP K p) ∧ PropOf K C m a f ∧ Binds K fd ["self"] []
  cl : Cls K C
  mp : MoP p
section
variable {X : Cx} {CX : CXT} {k : Nat} {C p g : Addr} {f : Str} {fd : FuncData} {ps : List Str} {sp : Sp} {dvs : List V} {ds : List Value} {E : XK} {o : Expr} {pos : Pos} {ta : TE}
end
end Pd
/-! A walk over an instance whose own __iter__ gives iter(a tuple of its own). -/
namespace Pd
open PySem PySem.Spec PyProof.Rows L2
/-! ### a tuple's iterator -/
def TtO (l it : Addr) (i : Nat) : HO := .ext fun h => h.IsTupleIter it l i
section
variable {X : Cx}
end
/-! ### a contract that knows how large the heap was -/
structure FnGN (P : Program) (wd : World) (K : PySem.W.Frag) (mg : Str → Option Value) (base : Heap) (CX : CXT) (k : Nat) (f : Addr) (fd : FuncData) (ps : List Str) (sp : Nat → Sp) : Prop where
  many : ∀ n vs H Q E, sp n vs H Q E → vs.length = ps.length
  goes : ∀ (A : Around) (outer : List Env) (s0 : Shared) (H : Hp) (args : Args) (us : List Value) (vs : List V) (Q : VK) (E : XK),
    Room k A → A.guards = some [] → Env0 P wd K mg base A outer s0 H → BindsTo s0 fd args (ps.zip us) → Vals vs us → sp s0.heap.objs.size vs H Q E →
      codeAny (model P wd) A (.call (.ref f) args) (CR CX outer P wd H s0 Q E) s0
/-! ### pyIter of an instance -/
/-- what an own __iter__ gives: an iterator of the tuple that the attribute f holds -/
def spIter (K : PySem.W.Frag) (C : Addr) (f : Str) : Nat → Sp := fun n vs H Q _ => ∃ a dx us l xs, vs = [.ref a] ∧ H a = some (.ins C dx us) ∧ us.lookup f = some (.ref l) ∧ SqT K H l xs ∧ ∀ it, H it = none → n ≤ it → Q (.ref it) (upd H it (TtO l it 0))
structure IterAt (P : Program) (wd : World) (K : PySem.W.Frag) (mg : Str → Option Value) (base : Heap) (k : Nat) (C : Addr) (f : Str) : Prop where
  ex : ∃ g fd, FnGN P wd K mg base CX0 k g fd ["self"] (spIter K C f) ∧ PySem.W.findIn K (.ref C) "__iter__" = some (some (.ref g)) ∧ PySem.W.isFn K (.ref g) = true ∧ Binds K fd ["self"] []
section
variable {X : Cx} {pins : List (Addr × Obj)} {σ : L2.St} {H : Hp} {s : Shared}
end
end Pd
/-! for x in o, for i, x in enumerate(o), o an instance with an own __iter__. -/
namespace Pd
open PySem PySem.Spec PyProof.Rows L2
section
variable {X : Cx} {tg : Expr}
end
/-! ### enumerate -/
end Pd
/-! enumerate(o); walks over instances as data. -/
namespace Pd
open PySem PySem.Spec PyProof.Rows L2
section
variable {X : Cx}
end
/-! ### as data -/
section
variable {X : Cx} {w : Wd} {e tg : Expr} {pos : Pos} {te : TDE}
end
end Pd
/-! An instance's own __iter__, __len__, __or__, by their bodies; in; a nested target; list or tuple. -/
namespace Pd
open PySem PySem.Spec PyProof.Rows L2
/-! ### an own def called by a built-in -/
section
variable {X : Cx} {k : Nat} {f C : Addr} {fd : FuncData} {ps : List Str} {sp : Sp}
end
/-! ### len(o) -/
/-- a special method whose promise is known -/
structure CalldS (P : Program) (wd : World) (K : PySem.W.Frag) (mg : Str → Option Value) (base : Heap) (k : Nat) (C : Addr) (m : Str) (ps : List Str) (p : DSp) : Prop where
  ex : ∃ f fd, FnG P wd K mg base CX0 k f fd ps (liP K p) ∧ PySem.W.findIn K (.ref C) m = some (some (.ref f)) ∧ PySem.W.isFn K (.ref f) = true ∧ Binds K fd ps []
  mp : MoP p
section
variable {X : Cx} {w : Wd} {e a b : Expr} {es : List Expr} {pos : Pos} {te ta tb : TDE} {C : Addr} {k : Nat} {ps : List Str} {p : DSp}
/-! ### o | o' -/
/-! ### in, of data -/
/-! ### any -/
/-! ### a list or a tuple, walked -/
theorem pi_or {tg : Expr} {t u : TI} (h1 : PI X tg e t) (h2 : PI X tg e u) : PI X tg e (fun σ H R => t σ H R ∨ u σ H R) := ⟨fun pins s σ H R I z => z.elim (h1.run pins s σ H R I) (h2.run pins s σ H R I)⟩
def dItLT (t : TDE) : TDI := fun r Q => t r fun d => ∃ ds, ((d = .lst ds) ∨ itemsOf d = some ds) ∧ Q ds
theorem pid_seq {tg : Expr} {i : Nat} {x : Str} {q : Pos} (h : PEd X w (.Name x q) (dVar i)) : PId X w tg (.Name x q) (dItLT (dVar i)) := by
  have hL := pid_list (tg := tg) h
  have hT := pid_tup (tg := tg) h
  refine ⟨weI (pi_or hL.pi hT.pi) ?_, fun r Q Q' q z => h.mo _ _ _ (fun d ⟨ds, e, z⟩ => ⟨ds, e, q _ z⟩) z⟩
  rintro σ H R ⟨W, own, r, S, d, hd, ds, ed, z⟩
  rcases ed with ed | ed
  · exact .inl ⟨W, own, r, S, d, hd, ds, ed, z⟩
  · exact .inr ⟨W, own, r, S, d, hd, ds, ed, z⟩
end
/-! ### for i, (a, b, c) in .. -/
/-! ### __iter__ by its body -/
end Pd
/-! xs[i] = e, xs a list of one's own; isinstance(x, (list, tuple)). -/
namespace Pd
open PySem PySem.Spec PyProof.Rows L2
theorem DvAll.st {K : PySem.W.Frag} {g : Gd} {H : Hp} {v : V} {d : Da} (h : Dv K g H v d) : ∀ {xs : List V} {ds : List Da} (j : Nat), DvAll K g H xs ds → DvAll K g H (xs.set j v) (ds.set j d)
  | _, _, _, .nil => .nil
  | _, _, 0, .cons a t => .cons h t
  | _, _, j + 1, .cons a t => .cons a (DvAll.st h j t)
section
variable {X : Cx} {w : Wd} {e f : Expr} {te ti : TDE} {pos : Pos}
end
end Pd
/-! key in dict, len(dict); more room. -/
namespace Pd
open PySem PySem.Spec PyProof.Rows L2
section
variable {X : Cx} {w : Wd} {e f a b : Expr} {es : List Expr} {te ti ta tb : TDE} {pos : Pos}
end
section
variable {P : Program} {wd : World} {K : PySem.W.Frag} {mg : Str → Option Value} {base : Heap} {j k : Nat} {C : Addr} {m x : Str} {ps : List Str} {p : DSp}
theorem CalldM.up (c : CalldM P wd K mg base j C m ps p) (h : j ≤ k) : CalldM P wd K mg base k C m ps p := by
  obtain ⟨⟨f, fd, F, mt, bd⟩, cl, mp⟩ := c
  exact ⟨⟨f, fd, F.up h, mt, bd⟩, cl, mp⟩
theorem CalldS.up (c : CalldS P wd K mg base j C m ps p) (h : j ≤ k) : CalldS P wd K mg base k C m ps p := by
  obtain ⟨⟨f, fd, F, mt, bd⟩, mp⟩ := c
  exact ⟨⟨f, fd, F.up h, mt, bd⟩, mp⟩
theorem CalldP.up (c : CalldP P wd K mg base j C m p) (h : j ≤ k) : CalldP P wd K mg base k C m p := by
  obtain ⟨⟨a, f, fd, F, mt, bd⟩, cl, mp⟩ := c
  exact ⟨⟨a, f, fd, F.up h, mt, bd⟩, cl, mp⟩
theorem CalldI.up {q : List Da → (List (Str × Da) → Prop) → Prop} (c : CalldI P wd K mg base j x C ps q) (h : j ≤ k) : CalldI P wd K mg base k x C ps q := by
  obtain ⟨⟨f, fd, F, mt, a, bd⟩, mp⟩ := c
  exact ⟨⟨f, fd, F.up h, mt, a, bd⟩, mp⟩
theorem FnGN.up {CX : CXT} {f : Addr} {fd : FuncData} {sp : Nat → Sp} (F : FnGN P wd K mg base CX j f fd ps sp) (h : j ≤ k) : FnGN P wd K mg base CX k f fd ps sp :=
  ⟨F.many, fun A outer s0 H args us vs Q E room => F.goes A outer s0 H args us vs Q E (room.mono h)⟩
theorem IterAt.up (c : IterAt P wd K mg base j C m) (h : j ≤ k) : IterAt P wd K mg base k C m := by
  obtain ⟨f, fd, F, a, b, bd⟩ := c.ex
  exact ⟨f, fd, F.up h, a, b, bd⟩
end
end Pd
/-! sorted texts are sorted. -/
namespace Pd
open PySem PySem.Spec PyProof.Rows L2
end Pd
/-! Comprehensions over what a list of things makes: with a test (place by place), without. -/
namespace Pd
open PySem PySem.Spec PyProof.Rows L2
theorem lcD_sel {gd : TDG} {tt : TDT} {te : TDE} {vs : List Nat} {r : En} {Q : Da → Prop} : ∀ (ds : List Da) (sel : List (Option Da)) (acc : List Da), sel.length = ds.length → acc.length + ds.length ≤ 16777216 →
    (∀ (k : Nat) (h1 : k < ds.length) (h2 : k < sel.length) (P : Bool → Da → Prop), (∀ y, sel[k] = some y → P true y) → (sel[k] = none → P false .non) → gd ds[k] (wipeD r vs) fun r2 => tt r2 fun b => if b = true then te r2 (P true) else P false .non) →
    Q (.lst (acc ++ sel.filterMap id)) → lcD gd tt te vs r Q ds acc
  | [], [], acc, _, _, _, q => by
    have z : Q (.lst (acc ++ [])) := q
    rw [List.append_nil] at z
    exact z
  | [], _ :: _, _, e, _, _, _ => by cases e
  | _ :: _, [], _, e, _, _, _ => by cases e
  | d :: ds, s :: sel, acc, e, hl, h, q => by
    rw [List.length_cons] at hl
    refine h 0 (Nat.zero_lt_succ _) (Nat.zero_lt_succ _) (fun b y => if b = true then acc.length < sizeLine ∧ lcD gd tt te vs r Q ds (acc ++ [y]) else lcD gd tt te vs r Q ds acc) (fun y hp => ?_) (fun hp => ?_)
    · rw [if_pos rfl]
      have hp : s = some y := hp
      subst hp
      refine ⟨by rw [sizeLine_eq]; omega, lcD_sel ds sel _ (by simpa using e) (by rw [List.length_append]; show acc.length + 1 + _ ≤ _; omega) (fun k h1 h2 => h (k + 1) (Nat.succ_lt_succ h1) (Nat.succ_lt_succ h2)) ?_⟩
      rw [List.append_assoc]
      exact q
    · rw [if_neg Bool.false_ne_true]
      have hp : s = none := hp
      subst hp
      exact lcD_sel ds sel _ (by simpa using e) (by omega) (fun k h1 h2 => h (k + 1) (Nat.succ_lt_succ h1) (Nat.succ_lt_succ h2)) q
/-- over ts.map f: the items of which p is so, made by g -/
theorem lcD_selM {α : Type} {gd : TDG} {tt : TDT} {te : TDE} {vs : List Nat} {r : En} {Q : Da → Prop} (f : α → Da) (p : α → Bool) (g : α → Da) (ts : List α) (hl : ts.length ≤ 16777216)
    (h : ∀ t ∈ ts, ∀ P : Bool → Da → Prop, (p t = true → P true (g t)) → (p t = false → P false .non) → gd (f t) (wipeD r vs) fun r2 => tt r2 fun b => if b = true then te r2 (P true) else P false .non)
    (q : Q (.lst ((ts.filter p).map g))) : lcD gd tt te vs r Q (ts.map f) [] := by
  refine lcD_sel (ts.map f) (ts.map fun t => if p t = true then some (g t) else none) [] (by simp) (by simpa using hl) (fun k h1 h2 P hy hn => ?_) ?_
  · rw [List.length_map] at h1
    simp only [List.getElem_map] at hy hn ⊢
    refine h _ (List.getElem_mem h1) P (fun e => hy _ (if_pos e)) (fun e => hn (if_neg (by rw [e]; exact Bool.false_ne_true)))
  · have e : ([] : List Da) ++ (ts.map fun t => if p t = true then some (g t) else none).filterMap id = (ts.filter p).map g := by
      rw [List.nil_append, List.filterMap_map]
      clear hl h q
      induction ts with
      | nil => rfl
      | cons t ts ih =>
        by_cases e : p t = true
        · rw [List.filter_cons_of_pos e, List.map_cons, ← ih]
          exact List.filterMap_cons_some (if_pos e)
        · rw [List.filter_cons_of_neg e, ← ih]
          exact List.filterMap_cons_none (if_neg e)
    rw [e]
    exact q
/-- .. without a test -/
theorem lcD_mapM {α : Type} {gd : TDG} {te : TDE} {vs : List Nat} {r : En} {Q : Da → Prop} (f : α → Da) (g : α → Da) (ts : List α) (hl : ts.length ≤ 16777216)
    (h : ∀ t ∈ ts, ∀ P : Da → Prop, P (g t) → gd (f t) (wipeD r vs) fun r2 => te r2 P) (q : Q (.lst (ts.map g))) : lcD gd dYes te vs r Q (ts.map f) [] := by
  refine lcD_ix0 (ts.map f) (ts.map g) (by simp) (by simpa using hl) (fun k h1 h2 P hP => ?_) q
  rw [List.length_map] at h1
  simp only [List.getElem_map] at hP ⊢
  exact h _ (List.getElem_mem h1) P hP
end Pd
/-! Equal dicts of numbers. -/
namespace Pd
open PySem PySem.Spec PyProof.Rows L2
def intsK (kvs : List (Key × Da)) : Prop := ∀ p ∈ kvs, ∃ i : Int, p.2 = .int i
theorem KvAll.ints {K : PySem.W.Frag} {g g' : Gd} {H H' : Hp} : ∀ {kvs : List (Key × Da)} {us vs : List (Key × V)}, intsK kvs → KvAll K g H us kvs → KvAll K g' H' vs kvs → us = vs ∧ ∀ p ∈ us, flatB p.2 = true
  | [], _, _, _, .nil, .nil => ⟨rfl, fun _ h => nomatch h⟩
  | (k, d) :: kvs, _, _, h, .cons a1 a2, .cons b1 b2 => by
    obtain ⟨e, fl⟩ := KvAll.ints (fun p hp => h p (List.mem_cons_of_mem _ hp)) a2 b2
    obtain ⟨i, hi⟩ := h (k, d) List.mem_cons_self
    have hi : d = .int i := hi
    subst hi
    cases a1
    cases b1
    subst e
    refine ⟨rfl, fun p hp => ?_⟩
    rcases List.mem_cons.mp hp with z | z
    · rw [z]; rfl
    · exact fl p z
section
variable {X : Cx} {w : Wd} {a b : Expr} {ta tb : TDE} {pos : Pos}
end
end Pd
/-! Calls of own methods within comprehensions: the frag is named. -/
namespace Pd
open PySem PySem.Spec PyProof.Rows L2
section
variable {X : Cx} {w : Wd} {e o : Expr} {es : List Expr} {pos : Pos} {apos : Pos} {te to : TDE} {t : TDA} {C : Addr} {k : Nat} {m : Str} {ps : List Str} {p : DSp}
end
end Pd
/-! An own class's == and !=, by its __eq__; isinstance of an own class; o[i] by its __getitem__. -/
namespace Pd
open PySem PySem.Spec PySem.Calls PyProof.Rows L2
/-! ### != by an own __eq__ -/
section
variable {prog : Program} {w : World} {A : Around} {E : Value → Shared → Prop} {s : Shared} {K : PySem.W.Frag} {x C f L : Addr} {b tb : Value} {h₀ : Heap} {m : Str → Option Value} {ox : Obj} {od : Option Obj}
end
end Pd
/-! == and != of an own class, isinstance of it, o[i]: read as data. -/
namespace Pd
open PySem PySem.Spec PySem.Calls PyProof.Rows L2
/-- what == of an own class wants of the text -/
structure OwnEqF (K : PySem.W.Frag) (C : Addr) : Prop where
  ne : PySem.W.findIn K (.ref C) "__ne__" = some (some (.builtin "object.__ne__"))
  mo : PySem.W.mroIn K C (.type "object") = some true
  ca : PySem.W.findIn K (.ref C) "__class__" = some (some (.builtin "object.__class__"))
  cg : PySem.W.specialIn K (.builtin "object.__class__") "__get__" = some (some (.builtin "getset_descriptor.__get__"))
  ct : PySem.W.takesIn K (.builtin "object.__class__") = some true
  ci : (PySem.W.clsIn K C).isSome = true
  ty : PySem.W.typeIn K (.ref C) = some (.type "type")
section
variable {X : Cx} {w : Wd} {a b e : Expr} {pos : Pos} {te ta tb : TDE} {C : Addr} {k : Nat} {ps : List Str} {p : DSp}
/-! ### isinstance(x, own class) -/
/-! ### o == y, o != y -/
/-! ### o[i] -/
end
end Pd
/-! More new things: data without lists, lists of one's own, [new, new][i]; x = a new thing. -/
namespace Pd
open PySem PySem.Spec PyProof.Rows L2
section
variable {X : Cx} {w : Wd} {a b e : Expr} {pos : Pos} {ta tb te : TDE}
end
/-! ### x = a new thing -/
section
variable {K : PySem.W.Frag} {w : Wd} {W : Addr → Bool} {own : Ow} {r : En} {σ : L2.St} {H H1 : Hp}
end
section
variable {X : Cx} {w : Wd} {e : Expr}
end
end Pd
/-! x = x + [new, new], x a new list of new things. -/
namespace Pd
open PySem PySem.Spec PyProof.Rows L2
section
variable {X : Cx} {w : Wd} {es : List Expr}
end
end Pd
/-! list(o), o an instance whose own __iter__ gives iter(a tuple of its own). -/
namespace Pd
open PySem PySem.Spec PySem.Calls PyProof.Rows L2
section
variable {X : Cx} {k : Nat} {f C a q : Addr} {fd : FuncData} {ps : List Str} {sp : Sp} {pins : List (Addr × Obj)} {σ : L2.St} {H : Hp} {s : Shared} {A1 : Around}
end
end Pd
/-! list(o), o an instance whose own __iter__ gives iter(a tuple of its own): the rule. -/
namespace Pd
open PySem PySem.Spec PySem.Calls PyProof.Rows L2
section
variable {X : Cx} {pins : List (Addr × Obj)} {σ : L2.St} {H : Hp} {s : Shared} {A1 : Around}
end
/-! ### the rule -/
section
variable {X : Cx} {C : Addr} {f : Str} {k : Nat} {p : DSp} {ps : List Str}
end
end Pd
/-! list(o) as data; for x in xs + xs[:n], xs one's own; walks named by the frag; methods that return new things. -/
namespace Pd
open PySem PySem.Spec PyProof.Rows L2
section
variable {X : Cx} {w : Wd} {e tg ce : Expr} {pos : Pos} {te : TDE} {C : Addr} {f : Str} {k : Nat} {p : DSp} {ps : List Str}
/-! ### list(o) -/
end
/-! ### methods that return new things -/
structure CalldMV (P : Program) (wd : World) (K : PySem.W.Frag) (mg : Str → Option Value) (base : Heap) (k : Nat) (C : Addr) (m : Str) (ps : List Str) (p : DSp) : Prop where
  ex : ∃ f fd, FnG P wd K mg base CX0 k f fd ps (liV K p) ∧ Meth K C m f ∧ Binds K fd ps []
  cl : Cls K C
  mp : MoP p
section
variable {P : Program} {wd : World} {K : PySem.W.Frag} {mg : Str → Option Value} {base : Heap} {j k : Nat} {C : Addr} {m x : Str} {ps : List Str} {p : DSp}
theorem CalldMV.up (c : CalldMV P wd K mg base j C m ps p) (h : j ≤ k) : CalldMV P wd K mg base k C m ps p := by
  obtain ⟨⟨f, fd, F, mt, bd⟩, cl, mp⟩ := c
  exact ⟨⟨f, fd, F.up h, mt, bd⟩, cl, mp⟩
theorem CalldMV.dat (c : CalldMV P wd K mg base k C m ps p) : CalldM P wd K mg base k C m ps p := by
  obtain ⟨⟨f, fd, F, a, b⟩, cl, mp⟩ := c
  exact ⟨⟨f, fd, ⟨fun vs H Q E ⟨g, W, ds, k1, dv, h⟩ => F.many vs H Q E ⟨g, W, ds, k1, dv, mp _ _ _ (fun _ => AftN.aft) h⟩, fun A outer s0 H args us vs Q E room hG z bd rel ⟨g, W, ds, k1, dv, h⟩ => F.goes A outer s0 H args us vs Q E room hG z bd rel ⟨g, W, ds, k1, dv, mp _ _ _ (fun _ => AftN.aft) h⟩⟩, a, b⟩, cl, mp⟩
end
section
variable {X : Cx} {w : Wd} {o e : Expr} {es : List Expr} {to : TDE} {t : TDA} {m : Str} {pos apos : Pos} {C : Addr} {k : Nat} {ps : List Str} {p : DSp}
/-! ### list(t), a new list -/
end
end Pd
/-! An attribute read within a comprehension. -/
namespace Pd
open PySem PySem.Spec PyProof.Rows L2
section
variable {X : Cx} {w : Wd} {o : Expr} {to : TDE} {f : Str} {pos : Pos}
end
end Pd
/-! x = x + [e, ..], x a list of one's own. -/
namespace Pd
open PySem PySem.Spec PyProof.Rows L2
section
variable {X : Cx} {w : Wd} {es : List Expr}
/-! ### xs[::-1], a list -/
end
end Pd
/-! A dict of numbers and texts is walked over while it is read: it is locked for one expression. -/
namespace Pd
open PySem PySem.Spec PyProof.Rows L2
/-! ### data that stand in any heap -/
def GrdD : Da → Prop
  | .int _ => True
  | .str _ => True
  | _ => False
def Grd (kvs : List (Key × Da)) : Prop := ∀ kv ∈ kvs, GrdD kv.2
inductive KvG : List (Key × V) → List (Key × Da) → Prop
  | nil : KvG [] []
  | int {k : Key} {i : Int} {us : List (Key × V)} {kvs : List (Key × Da)} : KvG us kvs → KvG ((k, .int i) :: us) ((k, .int i) :: kvs)
  | str {k : Key} {x : Str} {us : List (Key × V)} {kvs : List (Key × Da)} : KvG us kvs → KvG ((k, .str x) :: us) ((k, .str x) :: kvs)
theorem KvG.of {K : PySem.W.Frag} {g : Gd} {H : Hp} : ∀ {kvs : List (Key × Da)} {us : List (Key × V)}, KvAll K g H us kvs → Grd kvs → KvG us kvs
  | [], _, h, _ => by cases h; exact .nil
  | (k, d) :: kvs, _, h, q => by
    cases h with
    | cons a t =>
      have r := KvG.of t fun kv m => q kv (List.mem_cons_of_mem _ m)
      have c := q (k, d) List.mem_cons_self
      cases a with
      | int i => exact .int r
      | str x => exact .str r
      | _ => exact c.elim
theorem KvG.all {K : PySem.W.Frag} {g : Gd} {H : Hp} : ∀ {us : List (Key × V)} {kvs : List (Key × Da)}, KvG us kvs → KvAll K g H us kvs
  | _, _, .nil => .nil
  | _, _, .int h => .cons (.int _) h.all
  | _, _, .str h => .cons (.str _) h.all
mutual
def nofix : Da → Bool
  | .lst ds => nofixs ds
  | .tup ds => nofixs ds
  | .tpw ds => nofixs ds
  | .dct kvs => nofixk kvs
  | .fix _ => false
  | _ => true
def nofixs : List Da → Bool
  | [] => true
  | d :: ds => nofix d && nofixs ds
def nofixk : List (Key × Da) → Bool
  | [] => true
  | (_, d) :: ds => nofix d && nofixk ds
end
/-- all but dicts that are locked stays -/
def Tr (H H' : Hp) : Prop := ∀ b o, H b = some o → (∀ od us, o ≠ .frz od (.dK us)) → H' b = some o
section
variable {K : PySem.W.Frag} {g : Gd} {H H' : Hp}
theorem sqt_tr {a : Addr} {xs : List V} (e : Tr H H') (h : SqT K H a xs) : SqT K H' a xs := by
  rcases h with (h | ⟨o, h⟩) | h
  · exact .inl (.inl (e _ _ h fun _ _ z => nomatch z))
  · exact .inl (.inr ⟨o, e _ _ h fun _ _ z => nomatch z⟩)
  · exact .inr h
theorem tups_tr {a : Addr} {xs : List V} (e : Tr H H') (h : TupS K H a xs) : TupS K H' a xs := by
  rcases h with ⟨o, h, n⟩ | h
  · exact .inl ⟨o, e _ _ h fun _ _ z => (nomatch z), n⟩
  · exact .inr h
mutual
theorem Dv.tr (e : Tr H H') : ∀ (d : Da) (v : V), nofix d = true → Dv K g H v d → Dv K g H' v d
  | .non, _, _, h => by cases h; exact .non
  | .bl _, _, _, h => by cases h; exact .bl _
  | .int _, _, _, h => by cases h; exact .int _
  | .str _, _, _, h => by cases h; exact .str _
  | .lst ds, _, n, h => by
    cases h with
    | lst h1 h2 => exact .lst (e _ _ h1 fun _ _ z => nomatch z) (DvAll.tr e ds _ (by simpa [nofix] using n) h2)
  | .tup ds, _, n, h => by
    cases h with
    | tup h1 h2 => exact .tup (tups_tr e h1) (DvAll.tr e ds _ (by simpa [nofix] using n) h2)
  | .tpw ds, _, n, h => by
    cases h with
    | tpw h1 h2 => exact .tpw (sqt_tr e h1) (DvAll.tr e ds _ (by simpa [nofix] using n) h2)
  | .dct ds, _, n, h => by
    cases h with
    | dct h1 h2 => exact .dct (e _ _ h1 fun _ _ z => nomatch z) (KvAll.tr e ds _ (by simpa [nofix] using n) h2)
  | .bag, _, _, h => by
    cases h with
    | bag q => exact .bag q
  | .raw _, _, _, h => by cases h; exact .raw
  | .fix _, _, n, _ => by simp [nofix] at n
theorem DvAll.tr (e : Tr H H') : ∀ (ds : List Da) (vs : List V), nofixs ds = true → DvAll K g H vs ds → DvAll K g H' vs ds
  | [], _, _, h => by cases h; exact .nil
  | d :: ds, _, n, h => by
    have n := Bool.and_eq_true_iff.mp (show (nofix d && nofixs ds) = true by simpa [nofixs] using n)
    cases h with
    | cons h1 h2 => exact .cons (Dv.tr e d _ n.1 h1) (DvAll.tr e ds _ n.2 h2)
theorem KvAll.tr (e : Tr H H') : ∀ (ds : List (Key × Da)) (vs : List (Key × V)), nofixk ds = true → KvAll K g H vs ds → KvAll K g H' vs ds
  | [], _, _, h => by cases h; exact .nil
  | (k, d) :: ds, _, n, h => by
    have n := Bool.and_eq_true_iff.mp (show (nofix d && nofixk ds) = true by simpa [nofixk] using n)
    cases h with
    | cons h1 h2 => exact .cons (Dv.tr e d _ n.1 h1) (KvAll.tr e ds _ n.2 h2)
end
end
/-! ### the expression -/
section
variable {X : Cx} {w : Wd} {e tg : Expr} {te t : TDE} {i j : Nat}
/-! ### a locked dict: walked over, looked up -/
theorem KvG.len : ∀ {us : List (Key × V)} {kvs : List (Key × Da)}, KvG us kvs → us.length = kvs.length
  | _, _, .nil => rfl
  | _, _, .int h => by rw [List.length_cons, List.length_cons, h.len]
  | _, _, .str h => by rw [List.length_cons, List.length_cons, h.len]
theorem KvG.at : ∀ {us : List (Key × V)} {kvs : List (Key × Da)} {n : Nat} {k : Key} {v : V}, KvG us kvs → us[n]? = some (k, v) → ∃ d, kvs[n]? = some (k, d)
  | _, _, _, _, _, .nil, e => by cases e
  | _, _, 0, _, _, .int h, e => by cases e; exact ⟨_, rfl⟩
  | _, _, 0, _, _, .str h, e => by cases e; exact ⟨_, rfl⟩
  | _, _, n + 1, _, _, .int h, e => h.at (n := n) e
  | _, _, n + 1, _, _, .str h, e => h.at (n := n) e
end
section
variable {X : Cx} {w : Wd} {a e : Expr} {te ty : TDE} {pos : Pos}
end
end Pd
/-! dict(zip(a tuple, a list)): the pairs, as what fills a dict. -/
namespace Pd
open PySem
section
variable {prog : Program} {w : World} {A : Around} {E : Value → Shared → Prop} {s : Shared} {z TI TO T i1 i2 : Addr} {fp1 fp2 : List Addr} {n1 n2 i : Nat} {P1 P2 : Nat → Value → Prop} {St1 St2 : Nat → Heap → Prop} {f : Bool} {oT : Obj}
end
/-- a new zip of the tuple at l1 and the list at l2 -/
structure ZOk (z TI TO i1 i2 l1 l2 : Addr) (xs ys : Array Value) (h : Heap) : Prop where
  z : IsZip h z TI TO .none
  ti : IsPair h TI (.ref i1) (.ref i2)
  to : ∃ a b, IsPair h TO a b
  one : h.IsTupleIter i1 l1 0 ∧ h.IsTuple l1 xs
  two : h.IsListIter i2 l2 0 ∧ h.IsList l2 ys
end Pd
/-! dict(zip(a tuple of numbers and texts, a list)): the rule. -/
namespace Pd
open PySem PySem.Spec PySem.Calls PyProof.Rows L2
/-! ### zip of a tuple and a list -/
section
variable {prog : Program} {w : World} {A : Around} {E : Value → Shared → Prop} {s : Shared}
end
/-! ### the pairs, as keys and values -/
section
variable {X : Cx} {e f : Expr} {ta : TA} {p p2 pos pos2 : Pos}
end
end Pd
/-! dict(zip(a tuple of numbers and texts, a list)), as data. -/
namespace Pd
open PySem PySem.Spec PySem.Calls PyProof.Rows L2
section
variable {K : PySem.W.Frag} {g : Gd} {H : Hp}
theorem KvAll.zip : ∀ {ks : List Key} {ys : List V} {ds : List Da}, DvAll K g H ys ds → KvAll K g H (ks.zip ys) (ks.zip ds)
  | [], _, _, _ => .nil
  | _ :: _, _, _, .nil => .nil
  | _ :: _, _, _, .cons a t => .cons a (KvAll.zip t)
end
section
variable {X : Cx} {w : Wd} {e f : Expr} {t : TDA} {p p2 pos pos2 : Pos}
end
end Pd
/-! sum(a list of lists, []). -/
namespace Pd
open PySem PySem.Spec PySem.Calls PyProof.Rows L2
section
variable {X : Cx} {pins : List (Addr × Obj)} {σ : L2.St} {A1 : Around}
/-- the addresses of lists, and what they hold -/
abbrev Lsts (H : Hp) (ps : List Addr) (xss : List (List V)) : Prop := Paired (fun p xs => H p = some (.lst xs)) ps xss
theorem Lsts.at {H : Hp} : ∀ {ps : List Addr} {xss : List (List V)} {i : Nat}, Lsts H ps xss → i < ps.length → ∃ p xs, ps[i]? = some p ∧ xss.drop i = xs :: xss.drop (i + 1) ∧ H p = some (.lst xs)
  | _, _, _, .nil, h => absurd h (Nat.not_lt_zero _)
  | _, _, 0, .cons a _, _ => ⟨_, _, rfl, rfl, a⟩
  | _, _, i + 1, .cons _ t, h => Lsts.at (i := i) t (Nat.lt_of_succ_lt_succ h)
end
end Pd
/-! sum(a list of lists, []): the rule. -/
namespace Pd
open PySem PySem.Spec PySem.Calls PyProof.Rows L2
section
variable {X : Cx}
end
end Pd
/-! sum(a list of lists, []), as data. -/
namespace Pd
open PySem PySem.Spec PySem.Calls PyProof.Rows L2
section
variable {X : Cx} {w : Wd} {e : Expr} {es : List Expr} {p pos : Pos}
end
end Pd
/-! len(set(a list of unlike tuples of texts)). -/
namespace Pd
open PySem PySem.Spec PyProof.Rows L2
section
variable {P : Program} {w : World} {A : Around} {E : Value → Shared → Prop} {s : Shared}
end
section
variable {X : Cx} {pins : List (Addr × Obj)} {σ : L2.St} {H : Hp} {s : Shared}
end
end Pd
namespace Pd
open PySem PySem.Spec PyProof.Rows L2
section
variable {X : Cx} {w : Wd} {e : Expr} {te : TDE} {pos : Pos}
end
end Pd
/-! a test: two instances of a class with its own __eq__. -/
namespace Pd
open PySem PySem.Spec PyProof.Rows L2
section
variable {X : Cx} {w : Wd} {a b : Expr} {ta tb : TDE} {pos : Pos} {k : Nat} {C : Addr} {ps : List Str} {p : DSp}
end
end Pd
/-! Exceptions: contracts of defs that may raise, said of data; raise; a call that may raise. -/
namespace Pd
open PySem PySem.Spec PyProof.Rows L2
/-- an exception of an own class: what it keeps, by its name -/
structure Xn where
  C : Addr
  kp : Option (Str × Da)
/-- the dict at d holds it -/
def Kept (K : PySem.W.Frag) (g : Gd) (Hh : Hp) (d : Option Addr) : Option (Str × Da) → Prop
  | none => d = none
  | some (f, y) => ∃ dd v, d = some dd ∧ Hh dd = some (.xd [(f, v)]) ∧ Dv K g Hh v y
theorem Kept.mono {K : PySem.W.Frag} {g : Gd} {H H' : Hp} {d : Option Addr} (e : Sm H H') : ∀ {k : Option (Str × Da)}, Kept K g H d k → Kept K g H' d k
  | none, h => h
  | some (f, y), ⟨dd, v, h1, h2, h3⟩ => ⟨dd, v, h1, e _ _ h2, Dv.mono e _ _ h3⟩
def XnAt (K : PySem.W.Frag) (g : Gd) (Hh : Hp) (x : Xn) (cls : Value) (d : Option Addr) : Prop := cls = .ref x.C ∧ Kept K g Hh d x.kp
abbrev DSpX := List Da → (Da → Prop) → (Xn → Prop) → Prop
def MoPX (p : DSpX) : Prop := ∀ ds Q Q' R R', (∀ d, Q d → Q' d) → (∀ x, R x → R' x) → p ds Q R → p ds Q' R'
def AftX (K : PySem.W.Frag) (g : Gd) (W : Addr → Bool) (H : Hp) (E : XK) (x : Xn) : Prop := ∀ cls d H', Ext g H H' → OkW K g W H' → XnAt K g (hid W H') x cls d → E cls d H'
def liPX (K : PySem.W.Frag) (p : DSpX) : Sp := fun vs H Q E => ∃ g W ds, OkW K g W H ∧ DvAll K g (hid W H) vs ds ∧ p ds (Aft K g W H Q) (AftX K g W H E)
/-- what a def's context takes of exceptions: R tells of the exception and the slots -/
structure TkD (X : Cx) (w : Wd) (R : Xn → En → Prop) : Prop where
  ex : ∃ Wx : WX, Takes X Wx ∧ ∀ x r W own σ H cls d, R x r → Stt X.K w W own r σ H → XnAt X.K w.g (hid W H) x cls d → Wx cls d σ H
structure CalldX (P : Program) (wd : World) (K : PySem.W.Frag) (mg : Str → Option Value) (base : Heap) (k : Nat) (x : Str) (ps : List Str) (p : DSpX) : Prop where
  ex : ∃ f fd, FnG P wd K mg base (L2.CX P wd) k f fd ps (liPX K p) ∧ mg x = some (.ref f) ∧ PySem.W.keepIn K (.ref f) = true ∧ Binds K fd ps []
  mp : MoPX p
theorem CalldX.up {P : Program} {wd : World} {K : PySem.W.Frag} {mg : Str → Option Value} {base : Heap} {j k : Nat} {x : Str} {ps : List Str} {p : DSpX} (c : CalldX P wd K mg base j x ps p) (h : j ≤ k) : CalldX P wd K mg base k x ps p := by
  obtain ⟨⟨f, fd, F, a, b, d⟩, mp⟩ := c
  exact ⟨⟨f, fd, F.up h, a, b, d⟩, mp⟩
section
variable {X : Cx} {CX : CXT} {k : Nat} {f : Addr} {fd : FuncData} {ps : List Str} {sp : Sp} {dvs : List V} {ds : List Value} {E : XK} {x : Str} {p pos : Pos} {e : Expr} {es : List Expr} {t : TA}
theorem run_GS {pins : List (Addr × Obj)} {σ : L2.St} {H : Hp} {s : Shared} {Q : VK} {us : List Value} {vs : List V} (F : FnG X.prog X.w X.K X.mg X.base CX k f fd ps sp) (room : Room k X.A) (hG : X.A.guards = some [])
    (bd : Binds X.K fd ps []) (px : PassesAt CX X σ E) (I : Inv X pins σ H s) (rel : Vals vs us) (pre : sp vs H Q E) : wpAny (model X.prog X.w) X.A (call (.ref f) us) (EP X pins σ Q) X.xe s := by
  have len2 : (us ++ ([] : List Value)).length = ps.length := by
    rw [List.append_nil]
    exact rel.length.symm.trans (F.many _ _ _ _ pre)
  have b := bd s us I.kIn len2
  rw [List.append_nil] at b
  have all := F.goes X.A X.stack s H ⟨us, []⟩ us vs Q E room hG I.env0 b rel pre
  refine wpAny_call (codeAny_mono all ?_)
  intro r s' out
  match r, out with
  | .error e, out => exact px pins H s e s' I out
  | .ok (.ret u), out => exact I.after out
  | .ok .next, out => exact out.elim
  | .ok .brk, out => exact out.elim
  | .ok .cont, out => exact out.elim
def tCallG (sp : Sp) (E : L2.St → XK) (t : TA) : TE := fun σ H Q => t σ H fun vs H1 => sp vs H1 Q (E σ)
theorem pe_callGS {ES : L2.St → XK} (F : FnG X.prog X.w X.K X.mg X.base CX k f fd ps sp) (room : Room k X.A) (hG : X.A.guards = some []) (gl : Gl X x) (at_x : X.mg x = some (.ref f)) (kp : PySem.W.keepIn X.K (.ref f) = true)
    (bd : Binds X.K fd ps []) (px : ∀ σ, PassesAt CX X σ (ES σ)) (args : PA X (e :: es) t) (nd : (x == ("__debug__" : Str)) = false := by decide)
    (st : starEach (e :: es) X.env = (false, eval e X.env) :: starEach es X.env := by rfl) (bk : (backTo pos (starEach es X.env)).any (·.1) = false := by rfl) :
    PE X (.Call (.Name x p) (e :: es) [] pos) (tCallG sp ES t) := by
  constructor
  intro pins s σ H Q I pre
  apply wpAny_Call_Name_kw
  apply ld_glob I gl at_x _ nd
  refine PySem.W.callWith_K (h₀ := X.base) I.ok.mod.kin kp (thn (args.run pos pins s σ H _ I pre) ?_) st bk
  rintro us s1 ⟨vs, H1, I1, rel, q⟩
  exact ⟨I1.kIn, run_GS F room hG bd (px σ) I1 rel q⟩
end
section
variable {X : Cx} {w : Wd}
def dCallX (p : DSpX) (R : Xn → En → Prop) (t : TDA) : TDE := fun r Q => t r fun ds => p ds Q fun x => R x r
theorem ped_fX {x : Str} {p pos : Pos} {k : Nat} {ps : List Str} {sp : DSpX} {t : TDA} {e : Expr} {es : List Expr} {R : Xn → En → Prop} (tk : TkD X w R) (c : CalldX X.prog X.w X.K X.mg X.base k x ps sp) (room : Room k X.A) (hG : X.A.guards = some []) (args : PAd X w (e :: es) t) (gl : Gl X x := by rfl) (nd : (x == ("__debug__" : Str)) = false := by decide)
    (st : starEach (e :: es) X.env = (false, eval e X.env) :: starEach es X.env := by rfl) (bk : (backTo pos (starEach es X.env)).any (·.1) = false := by rfl) : PEd X w (.Call (.Name x p) (e :: es) [] pos) (dCallX sp R t) := by
  obtain ⟨⟨f, fd, F, a, b, d⟩, mp⟩ := c
  obtain ⟨Wx, tkx, hW⟩ := tk.ex
  refine ⟨weE (pe_callGS (ES := WE Wx) F room hG gl a b d (fun σ => passAt tkx σ) args.pa nd st bk) ?_, fun r Q Q' q h => args.mo _ _ _ (fun ds z => mp _ _ _ _ _ q (fun _ y => y) z) h⟩
  rintro σ H Q ⟨W, own, r, S, h⟩
  refine goA args S h fun xs vs H1 e1 k1 d1 p => ?_
  exact ⟨w.g, W, xs, k1, d1, mp _ _ _ _ _ (fun d q => q.then e1) (fun x y cls d H' e2 k2 at_x => hW x r W own σ H' cls d y (S.ext (e1.trans e2) k2) at_x) p⟩
end
/-- a def that may raise, by its body -/
theorem defX {P : Program} {wd : World} {K : PySem.W.Frag} {mg : Str → Option Value} {base : Heap} {x qual : Str} {st : Stmt} {f : Addr} {fd : FuncData} {N ps : List Str} {k : Nat} {p : DSpX}
    (F : Fun K x qual st f fd) (S : FnScope N ps (defScope st)) (len : ∀ ds Q R, p ds Q R → ds.length = ps.length)
    (inside : ∀ (cdv : Value) (A : Around) (outer : List Env) (s0 : Shared) (H : Hp) (E : XK) (w : Wd) (ds : List Da) (Q : Da → Prop) (R : Xn → Prop), Room k (A.deeper (envOfC qual (defScope st) s0.heap.objs.size f cdv)) → A.guards = some [] →
      TkD (cxOf (L2.CX P wd) P wd K mg base N qual (defScope st) f cdv A outer s0 H E) w (fun x _ => R x) → p ds Q R →
      ∃ t, PSsd (cxOf (L2.CX P wd) P wd K mg base N qual (defScope st) f cdv A outer s0 H E) w (defBody st) t ∧ t { nx := fun _ => Q .non, rt := Q } (startD N ds)) :
    FnG P wd K mg base (L2.CX P wd) (k + 1) f fd ps (liPX K p) := by
  obtain ⟨oc, od, kV, doc, pm, an, cdv, ct, osl, rfl, at_f, at_c⟩ := F.ex
  apply fnG_of at_f at_c S
  · rintro vs H Q E ⟨g, W, ds, k1, dv, h⟩
    rw [dv.len]
    exact len _ _ _ h
  · rintro A outer s0 H vs Q E room hG ⟨g, W, ds, k1, dv, h⟩
    have tk : TkD (cxOf (L2.CX P wd) P wd K mg base N qual (defScope st) f cdv A outer s0 H E) ⟨H, g, W⟩ (fun x _ => AftX K g W H E x) := by
      refine ⟨fun cls d _ H => E cls d H, takes_of rfl rfl rfl rfl, fun x r W' own σ H' cls d h S at_x => ?_⟩
      refine h cls d H' S.base (S.ok.less S.w0 S.g0) ⟨at_x.1, at_x.2.mono (hid_le S.w0)⟩
    obtain ⟨t, ht, hq⟩ := inside cdv A outer s0 H E ⟨H, g, W⟩ ds _ _ room hG tk h
    refine ⟨_, ht.ps, W, fun _ _ => False, startD N ds, start_stt k1 dv, ht.mo { nx := fun _ => Aft K g W H Q .non, rt := Aft K g W H Q } _ _ ⟨fun r' q W' o' σ' H' g' S' => ?_, fun d q v H' e1 k2 d2 => q v H' e1 k2 d2, fun _ q => q.elim, fun _ q => q.elim⟩ hq⟩
    have z := ret_ok (E := { nx := fun _ H' => Q .non H', rt := Q }) (d := .non) (v := V.non) S' (fun v H1 e1 k2 d2 => q v H1 e1 k2 d2) H' Ext.refl S'.ok .non
    exact z
theorem defCX {P : Program} {wd : World} {K : PySem.W.Frag} {mg : Str → Option Value} {base : Heap} {x : Str} {st : Stmt} {N ps : List Str} {k : Nat} {p : DSpX} (At : DefAt K mg x st ps)
    (S : FnScope N ps (defScope st)) (len : ∀ ds Q R, p ds Q R → ds.length = ps.length) (mp : MoPX p)
    (inside : ∀ (f : Addr) (cdv : Value) (A : Around) (outer : List Env) (s0 : Shared) (H : Hp) (E : XK) (w : Wd) (ds : List Da) (Q : Da → Prop) (R : Xn → Prop), Room k (A.deeper (envOfC x (defScope st) s0.heap.objs.size f cdv)) → A.guards = some [] →
      TkD (cxOf (L2.CX P wd) P wd K mg base N x (defScope st) f cdv A outer s0 H E) w (fun x _ => R x) → p ds Q R →
      ∃ t, PSsd (cxOf (L2.CX P wd) P wd K mg base N x (defScope st) f cdv A outer s0 H E) w (defBody st) t ∧ t { nx := fun _ => Q .non, rt := Q } (startD N ds)) :
    CalldX P wd K mg base (k + 1) x ps p := by
  obtain ⟨f, fd, F, a, b⟩ := At.ex
  exact ⟨⟨f, fd, defX F S len (inside f), a, F.kp, b⟩, mp⟩
end Pd
/-! raise C(e), C an own error class whose __init__ keeps its one argument. -/
namespace Pd
open PySem PySem.Spec PyProof.Rows L2
/-- the class at C, called x, keeps its argument as f -/
structure ErrAt (K : PySem.W.Frag) (mg : Str → Option Value) (x f : Str) (C : Addr) : Prop where
  gC : mg x = some (.ref C)
  ox : OexC K C
  no : PySem.W.findIn K (.ref C) f = some none
  init : ∃ qual st fI fd p1 p2 p3 p4, Fun K "__init__" qual st fI fd ∧ PySem.W.findIn K (.ref C) "__init__" = some (some (.ref fI)) ∧ PySem.W.typeIn K (.ref fI) = some (.type "function") ∧ Binds K fd ["self", f] [] ∧ FnScope ["self", f] ["self", f] (defScope st) ∧
    defBody st = [.Assign [.Attribute (.Name "self" p1) f p2] (.Name f p3) p4] ∧ (f == ("__debug__" : Str)) = false ∧ (f == ("__classdict__" : Str)) = false ∧ (defScope st).names.lookup ("self" : Str) = some .local ∧ (defScope st).names.lookup f = some .local
def spKeep (K : PySem.W.Frag) (C : Addr) (f : Str) : Sp := fun vs H Q _ => ∃ a y, vs = [.ref a, y] ∧ H a = some (exo a C none) ∧ ∀ dx, H dx = none → dx ≠ a → Q .non (upd (upd H dx (exd dx [(f, y)])) a (exo a C (some dx)))
section
variable {P : Program} {wd : World} {K : PySem.W.Frag} {mg : Str → Option Value} {base : Heap}
theorem ok_keep {x f : Str} {C : Addr} (T : ErrAt K mg x f C) : ∃ fI fd, FnOk P wd K mg base CX0 1 fI fd ["self", f] (spKeep K C f) ∧ PySem.W.findIn K (.ref C) "__init__" = some (some (.ref fI)) ∧ PySem.W.typeIn K (.ref fI) = some (.type "function") ∧ Binds K fd ["self", f] [] := by
  obtain ⟨qual, st, fI, fd, p1, p2, p3, p4, F, h1, h2, bd, S, hb, n1, n2, l1, l2⟩ := T.init
  refine ⟨fI, fd, F.ok S ?_ ?_, h1, h2, bd⟩
  · rintro vs H Q E ⟨a, y, rfl, _⟩
    rfl
  · rintro cdv A outer s0 H vs Q E hr ⟨a, y, rfl, ha, q⟩
    rw [hb]
    refine ⟨_, pss_one (ps_ost (pe_var (i := 0) rfl (.inl l1) (by decide) (by decide)) (pe_var (i := 1) rfl (.inl l2) n1 n2)), ?_⟩
    exact ⟨_, rfl, _, rfl, a, C, rfl, T.ox, T.no, .inl ⟨ha, fun dx n ne => q dx n ne⟩⟩
end
def dRaise (C : Addr) (f : Str) (R : Xn → En → Prop) (te : TDE) : TDS := fun _ r => te r fun y => R ⟨C, some (f, y)⟩ r
section
variable {X : Cx} {w : Wd}
theorem psd_raiseF {x f : Str} {C : Addr} {a : Expr} {te : TDE} {p pos pos2 : Pos} {k : Nat} {R : Xn → En → Prop} (tk : TkD X w R) (T : ErrAt X.K X.mg x f C) (hr : Room (k + 2) X.A) (he : PEd X w a te) (hc : X.calm = true := by rfl) (hg : Gl X x := by rfl)
    (hdb : (x == ("__debug__" : Str)) = false := by decide) (st : starEach [a] X.env = (false, eval a X.env) :: starEach [] X.env := by rfl) (bk : (backTo pos (starEach [] X.env)).any (·.1) = false := by rfl) :
    PSd X w (.Raise (some (.Call (.Name x p) [a] [] pos)) none pos2) (dRaise C f R te) := by
  obtain ⟨Wx, tkx, hW⟩ := tk.ex
  obtain ⟨fI, fd, F, i1, i2, bd⟩ := ok_keep (P := X.prog) (wd := X.w) (base := X.base) T
  refine ⟨weS (ps_raise hc tkx (pmk_oex (dvs := []) T.ox i1 i2 F (hr.mono (by omega)) bd .nil pass0 hg T.gC (pa_cons he.pe pa_nil st) hdb st bk)) ?_, fun E E' r l h => he.mo _ _ _ (fun _ z => z) h⟩
  rintro D σ H ⟨W, own, r, S, h⟩
  refine go1 he S h fun y v H1 e1 k1 d1 z => ?_
  refine ⟨(by show 1 ≤ 1000; decide), fun b nb => ⟨b, v, rfl, upd_same, fun dx ndx ne => ⟨rfl, dx, [(f, v)], upd_same, ?_, ?_, ?_⟩⟩⟩
  · rw [upd_ne ne]
    exact upd_same
  · rw [upd_ne ne] at ndx
    exact ndx
  · rw [upd_ne ne] at ndx
    have eH : upd (del (upd (upd (upd H1 b (exo b C none)) dx (exd dx [(f, v)])) b (exo b C (some dx))) b) dx (.xd [(f, v)]) = upd H1 dx (.xd [(f, v)]) := by
      funext c
      by_cases e2 : c = dx
      · rw [e2, upd_same, upd_same]
      · rw [upd_ne e2, upd_ne e2]
        by_cases e3 : c = b
        · rw [e3, del_same, nb]
        · rw [del_ne e3, upd_ne e3, upd_ne e2, upd_ne e3]
    rw [eH]
    obtain ⟨x1, x2, x3, x4⟩ := k1.new (o := .xd [(f, v)]) ndx
    exact hW _ r W own σ _ _ _ z (S.ext (e1.trans x1) x2) ⟨rfl, dx, v, rfl, x4, Dv.mono x3 _ _ d1⟩
end
end Pd
/-! try: .. except C as e: a suite that returns; isinstance(e, C), e.f. -/
namespace Pd
open PySem PySem.Spec PyProof.Rows L2
def noLx : Option (Str × Da) → Bool
  | none => true
  | some (_, y) => noL y
/-- the caught exception, at a, its dict d -/
def excP (K : PySem.W.Frag) (a : Addr) (d : Option Addr) (k : Option (Str × Da)) (H : Hp) (v : V) : Prop := v = .ref a ∧ Kept K Gd.no H d k
def excD (K : PySem.W.Frag) (a : Addr) (d : Option Addr) (k : Option (Str × Da)) : Da := .fix (excP K a d k)
theorem Kept.sees {K : PySem.W.Frag} {g g' : Gd} {H H' : Hp} {d : Option Addr} (e : Sees H H') : ∀ {k : Option (Str × Da)}, noLx k = true → Kept K g H d k → Kept K g' H' d k
  | none, _, h => h
  | some (f, y), n, ⟨dd, v, h1, h2, h3⟩ => ⟨dd, v, h1, e _ _ h2 (fun _ z => by cases z) (fun _ z => by cases z), Dv.sees e _ _ n h3⟩
theorem excD_of {K : PySem.W.Frag} {g : Gd} {H : Hp} {a : Addr} {d : Option Addr} {k : Option (Str × Da)} (n : noLx k = true) (h : Kept K g H d k) : Dv K g H (.ref a) (excD K a d k) := .fix fun H' s => ⟨rfl, h.sees s n⟩
theorem excD_at {K : PySem.W.Frag} {g : Gd} {H : Hp} {v : V} {a : Addr} {d : Option Addr} {k : Option (Str × Da)} (h : Dv K g H v (excD K a d k)) : v = .ref a ∧ Kept K Gd.no H d k := by
  cases h with
  | fix q => exact q H (Sees.sm fun _ _ z => z)
/-! ### try -/
def PlainR (r : En) : Prop := ∀ (i : Nat) (d : Sl), r[i]? = some d → d = Sl.no ∨ ∃ x, d = Sl.dat x
section
variable {K : PySem.W.Frag} {w : Wd} {W W' : Addr → Bool} {own own' : Ow} {r r' : En} {σ σ' : L2.St} {H H' : Hp}
theorem Stt.rebase (S : Stt K w W own r σ H) (pl : PlainR r) : Stt K ⟨H, w.g, W⟩ W (fun _ _ => False) r σ H := by
  refine ⟨S.ok, Ext.refl, fun _ h => h, S.ok.gW, (fun _ h => .inl h), (fun i a h => h.elim), (fun i j a h => h.elim), S.len, fun i d h n => ?_⟩
  obtain ⟨v, h1, h2⟩ := S.sl i d h n
  refine ⟨v, h1, ?_⟩
  rcases pl i d h with e | ⟨x, e⟩
  · exact absurd e n
  · subst e
    exact h2
theorem Stt.lift (S0 : Stt K w W own r σ H) (S : Stt K ⟨H, w.g, W⟩ W' own' r' σ' H') : Stt K w W' own' r' σ' H' := by
  refine ⟨S.ok, S0.base.trans S.base, fun a h => S.w0 a (S0.w0 a h), S0.g0, (fun a h => (S.wN a h).elim (S0.wN a) fun z => .inr (S0.new0 z)), fun i a h => ?_, S.inj, S.len, S.sl⟩
  obtain ⟨h1, h2, h3⟩ := S.oW i a h
  refine ⟨h1, ?_, h3⟩
  cases e : w.H0 a with
  | none => rfl
  | some o =>
    have z := S0.base a o h3 e
    rw [show H a = none from h2] at z
    cases z
end
def dTry (K : PySem.W.Frag) (i : Nat) (c : Value) (tb : (Xn → En → Prop) → TDS) (ts : Addr → Option Addr → Xn → TDS) : TDS := fun E r =>
  PlainR r ∧ tb (fun x r2 => PySem.W.exmOne K (.ref x.C) c = some true ∧ noLx x.kp = true ∧ ∀ a d, ts a d x { nx := fun _ => False, rt := E.rt } (r2.set i (.dat (excD K a d x.kp)))) E r
theorem tk_any {X : Cx} {w : Wd} (R : Xn → En → Prop) : TkD (X.tr [] fun _ _ => True) w R := ⟨fun _ _ _ _ => True, fun _ _ _ => trivial, fun _ _ _ _ _ _ _ _ _ _ _ => trivial⟩
section
variable {X : Cx} {w : Wd} {x n : Str} {c : Value} {i : Nat} {body suite : List Stmt} {b₀ : Stmt} {np pos pos' : Pos} {tb : (Xn → En → Prop) → TDS} {ts : Addr → Option Addr → Xn → TDS}
end
/-! ### in the suite -/
structure ExcOk (K : PySem.W.Frag) (C : Addr) : Prop where
  cl : (PySem.W.clsIn K C).isSome = true
  ga : PySem.W.findIn K (.ref C) "__getattribute__" = some (some (.builtin "BaseException.__getattribute__"))
  gg : PySem.W.findIn K (.ref C) "__getattr__" = some none
  su : PySem.W.subIn K (.ref C) (.type "BaseException") = some true
  ca : PySem.W.findIn K (.ref C) "__class__" = some (some (.builtin "object.__class__"))
  cg : PySem.W.specialIn K (.builtin "object.__class__") "__get__" = some (some (.builtin "getset_descriptor.__get__"))
  ct : PySem.W.takesIn K (.builtin "object.__class__") = some true
  mo : PySem.W.mroIn K C (.type "object") = some true
  hd : PySem.W.hasDictIn K C = true
def rIsX (K : PySem.W.Frag) (D a : Addr) (d : Option Addr) : List V → Hp → VK → Prop := fun xs H Q => ∃ (c : Addr) (b : Bool), xs = [.ref a, .ref c] ∧ (d = none ∨ ∃ dd fs, d = some dd ∧ H dd = some (.xd fs)) ∧ PySem.W.kitOne K (.ref D) (.ref c) = some b ∧ Q (.bl b) H
theorem call_isX {X : Cx} {a D : Addr} {d : Option Addr} {oe : Obj} {pn : List (Addr × Obj)} (C : ExcOk X.K D) (hz : Zc (.ref D) d oe) (hf : ∃ vs, oe.data = .fields vs) : CallR (X.suite a ((a, oe) :: pn)) (.builtin "isinstance") (rIsX X.K D a d) := by
  intro pins s σ H xs us Q I r h
  obtain ⟨c, b, rfl, hd, e, q⟩ := h
  cases r with
  | cons rx rr =>
    cases rr with
    | cons rt rr =>
      cases rr
      cases rx
      cases rt
      obtain ⟨hget, _⟩ := I.pin (a, oe) (List.mem_append.mpr (.inl List.mem_cons_self))
      obtain ⟨vs, hv⟩ := hf
      have J : ∃ od, PySem.W.InstAt s.heap a oe D od := by
        obtain ⟨oc, odc, oda, osl⟩ := oe
        obtain ⟨h1, h2⟩ := hz
        dsimp only at h1 h2 hv
        subst h1 h2 hv
        rcases hd with e0 | ⟨dd, fs, e0, hdd⟩
        · subst e0
          exact ⟨none, hget, rfl, rfl, trivial⟩
        · subst e0
          have hx : ObjOk X.prog X.w H s.heap dd (.xd fs) := I.hok dd _ hdd
          obtain ⟨mA, hns, _⟩ := hx
          obtain ⟨o, es, ep, ho, _⟩ := hns
          exact ⟨some o, hget, rfl, rfl, ho⟩
      obtain ⟨od, J⟩ := J
      exact PySem.W.kia_one (PySem.W.kitx_exc C.cl C.ga C.gg C.su C.ca C.cg C.ct C.mo) I.kIn J e (fun z => nomatch z) fun tk => ⟨.bl b, H, I.kept (t' := tk) fun _ _ z => z, rfl, q⟩
section
variable {X : Cx} {w : Wd} {a D : Addr} {d : Option Addr} {oe : Obj} {pn : List (Addr × Obj)} {e : Expr} {te : TDE} {pos : Pos}
/-- isinstance(e, C) -/
def dIsX (K : PySem.W.Frag) (D a : Addr) (d : Option Addr) (c : Addr) (te : TDE) : TDE := fun r Q => te r fun x => ∃ k b, x = excD K a d k ∧ PySem.W.kitOne K (.ref D) (.ref c) = some b ∧ Q (.bl b)
theorem ped_isX {x : Str} {q p2 : Pos} {c : Addr} (C : ExcOk X.K D) (hz : Zc (.ref D) d oe) (hf : ∃ vs, oe.data = .fields vs) (hm : X.mg "isinstance" = none) (he : PEd (X.suite a ((a, oe) :: pn)) w e te) (hx : X.mg x = some (.ref c)) (hd : (x == ("__debug__" : Str)) = false := by decide)
    (hg : Gl (X.suite a ((a, oe) :: pn)) "isinstance" := by rfl) (hgx : Gl (X.suite a ((a, oe) :: pn)) x := by rfl)
    (st : starEach [e, .Name x p2] X.env = (false, eval e X.env) :: starEach [.Name x p2] X.env := by rfl) (st2 : starEach [.Name x p2] X.env = (false, eval (.Name x p2) X.env) :: starEach [] X.env := by rfl) (hpl : (backTo pos (starEach [.Name x p2] X.env)).any (·.1) = false := by rfl) :
    PEd (X.suite a ((a, oe) :: pn)) w (.Call (.Name "isinstance" q) [e, .Name x p2] [] pos) (dIsX X.K D a d c te) := by
  refine ⟨weE (pe_callB (call_isX C hz hf) hg hm (by decide +kernel) (pa_cons he.pe (pa_cons (pe_glob (v := .ref c) hgx hx rfl hd) pa_nil st2) st) (by decide) (by decide) (by exact st) (by exact hpl)) ?_, fun r Q Q' q h => he.mo _ _ _ (fun y ⟨k, b, h1, h3, z⟩ => ⟨k, b, h1, h3, q _ z⟩) h⟩
  rintro σ H Q ⟨W, own, r, S, z⟩
  refine go1 he S z fun y v H1 e1 k1 d1 z => ?_
  obtain ⟨k, b, rfl, hb, z⟩ := z
  obtain ⟨rfl, kept⟩ := excD_at d1
  refine ⟨c, b, rfl, ?_, hb, z (.bl b) H1 e1 k1 (.bl b)⟩
  cases k with
  | none => exact .inl kept
  | some p =>
    obtain ⟨f, y⟩ := p
    obtain ⟨dd, v, h1, h2, _⟩ := kept
    exact .inr ⟨dd, _, h1, (hid_some h2).2⟩
/-- e.f -/
def dXf (K : PySem.W.Frag) (a : Addr) (d : Option Addr) (f : Str) (te : TDE) : TDE := fun r Q => te r fun x => ∃ y, x = excD K a d (some (f, y)) ∧ noL y = true ∧ Q y
theorem ped_xf {n : Str} (C : ExcOk X.K D) (hz : Zc (.ref D) d oe) (hf : ∃ vs, oe.data = .fields vs) (no : PySem.W.findIn X.K (.ref D) n = some none) (he : PEd (X.suite a ((a, oe) :: pn)) w e te) (hb : attributeBase e n X.env (eval e X.env) = eval e X.env := by rfl) :
    PEd (X.suite a ((a, oe) :: pn)) w (.Attribute e n pos) (dXf X.K a d n te) := by
  refine ⟨weE (pe_xf ⟨C.ga, C.gg, C.su, C.hd⟩ no hz hf he.pe hb) ?_, fun r Q Q' q h => he.mo _ _ _ (fun x ⟨y, h1, h2, z⟩ => ⟨y, h1, h2, q _ z⟩) h⟩
  rintro σ H Q ⟨W, own, r, S, z⟩
  refine go1 he S z fun x v H1 e1 k1 d1 z => ?_
  obtain ⟨y, rfl, nl, z⟩ := z
  obtain ⟨rfl, dd, u, h1, h2, h3⟩ := excD_at d1
  refine ⟨rfl, rfl, dd, [(n, u)], u, h1, (hid_some h2).2, ?_, z u H1 e1 k1 (Dv.sees (Sees.sm fun _ _ z => z) _ _ nl h3)⟩
  rw [List.lookup_cons, beq_self_eq_true]
end
end Pd
/-! a | b, own __or__ that may raise. -/
namespace Pd
open PySem PySem.Spec PyProof.Rows L2
structure CalldSX (P : Program) (wd : World) (K : PySem.W.Frag) (mg : Str → Option Value) (base : Heap) (k : Nat) (C : Addr) (m : Str) (ps : List Str) (p : DSpX) : Prop where
  ex : ∃ f fd, FnG P wd K mg base (L2.CX P wd) k f fd ps (liPX K p) ∧ PySem.W.findIn K (.ref C) m = some (some (.ref f)) ∧ PySem.W.isFn K (.ref f) = true ∧ Binds K fd ps []
  mp : MoPX p
theorem CalldSX.up {P : Program} {wd : World} {K : PySem.W.Frag} {mg : Str → Option Value} {base : Heap} {j k : Nat} {C : Addr} {m : Str} {ps : List Str} {p : DSpX} (c : CalldSX P wd K mg base j C m ps p) (h : j ≤ k) : CalldSX P wd K mg base k C m ps p := by
  obtain ⟨⟨f, fd, F, a, b, d⟩, mp⟩ := c
  exact ⟨⟨f, fd, F.up h, a, b, d⟩, mp⟩
section
variable {X : Cx} {w : Wd} {a b : Expr} {ta tb : TDE} {pos : Pos} {C : Addr} {k : Nat} {ps : List Str} {p : DSpX}
end
end Pd
/-! A list of one's own: walked over by a for, its last item let go, one of its items picked by a call. -/
namespace Pd
open PySem PySem.Spec PyProof.Rows L2
/-- this very thing -/
def isAt (a : Addr) : Da := .fix fun _ v => v = .ref a
def lay (W : Addr → Bool) (a : Addr) : Addr → Bool := fun b => W b && !decide (b = a)
/-- what is left of the slots: plain data and the bag -/
inductive KeepR : En → En → Prop
  | nil : KeepR [] []
  | no {d : Sl} {r r2 : En} : KeepR r r2 → KeepR (d :: r) (.no :: r2)
  | dat {x : Da} {r r2 : En} : noL x = true → KeepR r r2 → KeepR (.dat x :: r) (.dat x :: r2)
  | bag {r r2 : En} : KeepR r r2 → KeepR (.dat .bag :: r) (.dat .bag :: r2)
theorem KeepR.len : ∀ {r r2 : En}, KeepR r r2 → r2.length = r.length
  | _, _, .nil => rfl
  | _, _, .no h => congrArg (· + 1) h.len
  | _, _, .dat _ h => congrArg (· + 1) h.len
  | _, _, .bag h => congrArg (· + 1) h.len
theorem KeepR.at : ∀ {r r2 : En} {j : Nat} {d : Sl}, KeepR r r2 → r2[j]? = some d → d ≠ .no → r[j]? = some d ∧ ∃ x, d = .dat x ∧ (x = .bag ∨ noL x = true)
  | _, _, _, _, .nil, e, _ => by cases e
  | _, _, 0, _, .no _, e, n => by cases e; exact absurd rfl n
  | _, _, 0, _, .dat z _, e, _ => by cases e; exact ⟨rfl, _, rfl, .inr z⟩
  | _, _, 0, _, .bag _, e, _ => by cases e; exact ⟨rfl, _, rfl, .inl rfl⟩
  | _, _, j + 1, _, .no h, e, n => KeepR.at (j := j) h e n
  | _, _, j + 1, _, .dat _ h, e, n => KeepR.at (j := j) h e n
  | _, _, j + 1, _, .bag h, e, n => KeepR.at (j := j) h e n
section
variable {K : PySem.W.Frag} {w : Wd} {W W' : Addr → Bool} {own own' : Ow} {r r' : En} {σ σ' : L2.St} {H H' : Hp}
end
/-! ### for x in xs, xs one's own -/
section
variable {X : Cx} {w : Wd}
end
/-! ### xs.pop() -/
section
variable {X : Cx} {w : Wd}
end
/-! ### a call that picks an item of one's own list -/
section
variable {X : Cx} {w : Wd} {e : Expr}
end
end Pd
/-! dict(a dict); equal dicts of numbers and texts. -/
namespace Pd
open PySem PySem.Spec PyProof.Rows L2
section
variable {X : Cx} {w : Wd} {a b e : Expr} {es : List Expr} {ta tb : TDE} {p pos : Pos}
end
end Pd
/-! An own error's kin: what is caught, what isinstance says. -/
namespace Pd
open PySem PySem.Spec PyProof.Rows L2
section
variable {K : PySem.W.Frag} {S D : Addr}
theorem kitCls_of {b : Bool} (h2 : PySem.W.isClsIn K D = true) (h3 : PySem.W.typeIn K (.ref D) = some (.type "type")) (h4 : PySem.W.subIn K (.ref S) (.ref D) = some b) : PySem.W.kitCls K (.ref S) (.ref D) = some b := by
  have e2 : ((PySem.W.clsIn K D).isSome && PySem.W.typeIn K (.ref D) == some (.type "type")) = true := by
    have h2' : (PySem.W.clsIn K D).isSome = true := h2
    rw [h2', h3] <;> rfl
  show (if ((PySem.W.clsIn K D).isSome && PySem.W.typeIn K (.ref D) == some (.type "type")) = true then PySem.W.subIn K (.ref S) (.ref D) else none) = some b
  rw [if_pos e2]
  exact h4
theorem exm_of {b : Bool} (h1 : PySem.W.subIn K (.ref D) (.type "BaseException") = some true) (h2 : PySem.W.isClsIn K D = true) (h3 : PySem.W.typeIn K (.ref D) = some (.type "type")) (h4 : PySem.W.subIn K (.ref S) (.ref D) = some b) : PySem.W.exmOne K (.ref S) (.ref D) = some b := by
  have e1 : (PySem.W.subIn K (.ref D) (.type "BaseException") == some true) = true := by rw [h1] <;> rfl
  unfold PySem.W.exmOne
  rw [if_pos e1]
  exact kitCls_of h2 h3 h4
theorem kit_self : PySem.W.kitOne K (.ref S) (.ref S) = some true := by
  unfold PySem.W.kitOne
  rw [if_pos (beq_self_eq_true _)]
end
end Pd
/-! Whole numbers of any sign divided; any of a tuple of numbers; the least and the greatest. -/
namespace Pd
open PySem PySem.Spec PyProof.Rows L2
/-- i // j goes its short way -/
def CDivZ (i j : Int) : Prop := j ≠ 0 ∧ (j.natAbs.log2 < 9000 ∨ i.natAbs.log2 < 9000 ∨ i.natAbs ≤ 2 * j.natAbs)
def dgN (n : Int) : Nat := if n == 0 then 0 else n.natAbs.log2 / 30 + 1
theorem dgN_le (n : Int) : dgN n ≤ n.natAbs.log2 / 30 + 1 := by
  unfold dgN
  split <;> omega
theorem CDivZ.ok {i j : Int} (h : CDivZ i j) : Builtin.divisionGoesByPylong i j = false := by
  obtain ⟨h0, h⟩ := h
  show (decide (dgN j > 300) && decide (dgN i > dgN j + 150)) = false
  have hi := dgN_le i
  have ej : dgN j = j.natAbs.log2 / 30 + 1 := if_neg (by simpa using h0)
  rw [Bool.and_eq_false_iff]
  rcases h with h | h | h
  · exact .inl (decide_eq_false (by omega))
  · by_cases z : dgN j > 300
    · exact .inr (decide_eq_false (by omega))
    · exact .inl (decide_eq_false z)
  · refine .inr (decide_eq_false ?_)
    by_cases zi : i = 0
    · have : dgN i = 0 := by rw [zi]; rfl
      omega
    · have : i.natAbs.log2 ≤ j.natAbs.log2 + 1 := by
        have h1 : i.natAbs < 2 ^ (j.natAbs.log2 + 2) := by
          have := Nat.lt_log2_self (n := j.natAbs)
          rw [Nat.pow_succ]
          omega
        have h2 := (Nat.log2_lt (by omega : i.natAbs ≠ 0)).mpr h1
        omega
      omega
theorem op_fdivZ {X : Cx} : OpR X (binaryOp .FloorDiv) (rI CDivZ fun i j => .int (i.fdiv j)) := opI fun _ _ _ _ _ _ _ hc q => floordiv_int hc.1 q (.inl hc.ok)
def fdivZD : DD := intD CDivZ fun i j => i.fdiv j
section
variable {X : Cx} {w : Wd} {e a b : Expr} {es : List Expr} {p q pos : Pos} {t : TDA} {ta tb : TDE}
theorem ped_fdivZ (ha : PEd X w a ta) (hb : PEd X w b tb) : PEd X w (.BinOp a .FloorDiv b pos) (dOp fdivZD ta tb) := ped_bin op_fdivZ intD_mo intD_br ha hb
/-! ### any of a tuple of numbers -/
theorem truth_ints {prog : Program} {w : World} {A : Around} {ns : List Int} {its : List Value} (e : IntsAre its ns) :
    TruthOf prog w A (fun i v => its.toArray[i]? = some v) (fun i => (ns.map fun n => n != 0).getD i false) := fun i v s Q E hv hq => by
  have hv' : its[i]? = some v := by simpa using hv
  clear hv
  induction e generalizing i with
  | nil => cases hv'
  | cons n t h ih =>
    cases i with
    | zero =>
      cases hv'
      exact truthy_int hq
    | succ i => exact ih i hq hv'
theorem ints_len : ∀ {its : List Value} {ns : List Int}, IntsAre its ns → its.length = ns.length
  | _, _, .nil => rfl
  | _, _, .cons n t h => congrArg (· + 1) (ints_len h)
def rAnyI (K : PySem.W.Frag) : List V → Hp → VK → Prop := fun vs H Q => ∃ (a : Addr) (ns : List Int), vs = [V.ref a] ∧ SqT K H a (ns.map V.int) ∧ Q (.bl (ns.any fun n => n != 0)) H
theorem cr_anyI (hc : X.calm = true) : CallR X (.builtin "any") (rAnyI X.K) := by
  intro pins s σ H vs us Q I r h
  obtain ⟨a, ns, rfl, hs, q⟩ := h
  obtain ⟨its, rv, hl, _⟩ := I.tuple hs
  rw [Vals.ref1 r]
  have hi := rv.ints
  have hlt : a < s.heap.objs.size := by obtain ⟨_, e, _⟩ := hl; exact Heap.lt_size e
  have hne : a ≠ s.heap.objs.size := Nat.ne_of_lt hlt
  have hl' : s.heap.IsTuple a its.toArray := hl
  refine call_any_walk (wpAny_pyIter_tuple hl' ?_)
  refine ⟨_, _, _, _, _, _, _, rfl, Walks.tuple (A := X.A.in1) (I.ok.hd hc) _ a hne its.toArray, ⟨⟨_, Heap.get?_push_size _ rfl, rfl, rfl⟩, hl'.push _⟩, truth_ints hi, fun h' tk hk => ?_⟩
  refine ⟨.bl _, H, I.kept fun b o eo => hk b o (fun hmem => ?_) (Heap.get?_push_of_some _ eo), ?_, q⟩
  · rcases List.mem_cons.mp hmem with e1 | hmem
    · exact absurd (e1 ▸ Heap.lt_size eo) (Nat.lt_irrefl _)
    · cases hmem
  · show Value.bool _ = Value.bool _
    have e1 := any_range (ns.map fun n => n != 0)
    have e2 : (ns.map fun n => n != 0).any id = ns.any fun n => n != 0 := by rw [List.any_map]; rfl
    have e3 : its.toArray.size = (ns.map fun n => n != 0).length := by
      rw [List.size_toArray, List.length_map]
      exact ints_len hi
    rw [← e2, ← e1, e3]
def anyID : DB := fun ds Q => ∃ ns : List Int, ds = [.tup (ns.map .int)] ∧ Q (.bl (ns.any fun n => n != 0))
theorem ped_anyI (hm : X.mg "any" = none) (args : PAd X w (e :: es) t) (hc : X.calm = true := by rfl) (hg : Gl X "any" := by rfl) (he : starEach (e :: es) X.env = (false, eval e X.env) :: starEach es X.env := by rfl) (hpl : (backTo pos (starEach es X.env)).any (·.1) = false := by rfl) :
    PEd X w (.Call (.Name "any" q) (e :: es) [] pos) (dCall anyID t) := by
  refine ped_callB (cr_anyI hc) (fun ds Q Q' q ⟨x, a, h⟩ => ⟨x, a, q _ h⟩) ?_ hm (by decide +kernel) args hg (by decide) (by decide) he hpl
  rintro g W H vs ds Q k dv ⟨is, rfl, h⟩
  obtain ⟨v, rfl, dx⟩ := dv.one
  obtain ⟨a, xs, rfl, h1, h2⟩ := items_sq dx rfl
  have ei := h2.ints
  subst ei
  exact ⟨_, is, rfl, h1, h.now k (.bl _)⟩
/-! ### the least and the greatest -/
def min2D : DB := fun ds Q => ∃ i j : Int, ds = [.int i, .int j] ∧ Q (.int (if j < i then j else i))
theorem ped_min2 (hm : X.mg "min" = none) (args : PAd X w (e :: es) t) (hc : X.calm = true := by rfl) (hg : Gl X "min" := by rfl) (he : starEach (e :: es) X.env = (false, eval e X.env) :: starEach es X.env := by rfl) (hpl : (backTo pos (starEach es X.env)).any (·.1) = false := by rfl) :
    PEd X w (.Call (.Name "min" q) (e :: es) [] pos) (dCall min2D t) := by
  refine ped_callB (call_min2 hc) (fun ds Q Q' q ⟨x, y, a, h⟩ => ⟨x, y, a, q _ h⟩) ?_ hm (by decide +kernel) args hg (by decide) (by decide) he hpl
  rintro g W H vs ds Q k dv ⟨i, j, rfl, h⟩
  obtain ⟨v, u, rfl, d1, d2⟩ := dv.two
  cases d1; cases d2
  exact ⟨i, j, rfl, h.now k (.int _)⟩
def minLD : DB := fun ds Q => ∃ is : List Int, ds = [.lst (is.map .int)] ∧ is ≠ [] ∧ ∀ m, m ∈ is → (∀ y ∈ is, m ≤ y) → Q (.int m)
theorem ped_minL (hm : X.mg "min" = none) (args : PAd X w (e :: es) t) (hc : X.calm = true := by rfl) (hg : Gl X "min" := by rfl) (he : starEach (e :: es) X.env = (false, eval e X.env) :: starEach es X.env := by rfl) (hpl : (backTo pos (starEach es X.env)).any (·.1) = false := by rfl) :
    PEd X w (.Call (.Name "min" q) (e :: es) [] pos) (dCall minLD t) := by
  refine ped_callB (cr_min hc) (fun ds Q Q' q ⟨x, a, n, h⟩ => ⟨x, a, n, fun m h1 h2 => q _ (h m h1 h2)⟩) ?_ hm (by decide +kernel) args hg (by decide) (by decide) he hpl
  rintro g W H vs ds Q k dv ⟨is, rfl, ne, h⟩
  obtain ⟨v, rfl, dx⟩ := dv.one
  cases dx with
  | lst a1 a2 =>
    have ei := a2.ints
    subst ei
    exact ⟨_, is, rfl, SqL.of (hid_some a1).2, List.length_pos_iff.mpr ne, fun m h1 h2 => (h m h1 h2).now k (.int _)⟩
def maxLD : DB := fun ds Q => ∃ is : List Int, ds = [.lst (is.map .int)] ∧ is ≠ [] ∧ ∀ m, m ∈ is → (∀ y ∈ is, y ≤ m) → Q (.int m)
theorem ped_maxL (hm : X.mg "max" = none) (args : PAd X w (e :: es) t) (hc : X.calm = true := by rfl) (hg : Gl X "max" := by rfl) (he : starEach (e :: es) X.env = (false, eval e X.env) :: starEach es X.env := by rfl) (hpl : (backTo pos (starEach es X.env)).any (·.1) = false := by rfl) :
    PEd X w (.Call (.Name "max" q) (e :: es) [] pos) (dCall maxLD t) := by
  refine ped_callB (cr_max hc) (fun ds Q Q' q ⟨x, a, n, h⟩ => ⟨x, a, n, fun m h1 h2 => q _ (h m h1 h2)⟩) ?_ hm (by decide +kernel) args hg (by decide) (by decide) he hpl
  rintro g W H vs ds Q k dv ⟨is, rfl, ne, h⟩
  obtain ⟨v, rfl, dx⟩ := dv.one
  cases dx with
  | lst a1 a2 =>
    have ei := a2.ints
    subst ei
    exact ⟨_, is, rfl, SqL.of (hid_some a1).2, List.length_pos_iff.mpr ne, fun m h1 h2 => (h m h1 h2).now k (.int _)⟩
end
end Pd
/-! name = [.. for x in ..], name one's own list (it may be walked, too). -/
namespace Pd
open PySem PySem.Spec PyProof.Rows L2
section
variable {X : Cx} {w : Wd} {pos : Pos}
theorem psd_setLcO {i : Nat} {y : Str} {py spos : Pos} {elt tg iter : Expr} {ifs : List Expr} {scope : Scope} {own : List (Str × Nat)} {g : TG} {gd : TDG} {gvs : List Nat} {wd : TDI} {tt : TDT} {te : TDE} (hN : X.N.Nodup) (hi : ∀ w, PId X w tg iter wd) (ok : BlkOk X.N X.env.scope scope own)
    (G : GDs X.K g gd gvs) (gmo : ∀ v σ H Q Q', (∀ a b, Q a b → Q' a b) → g v σ H Q → g v σ H Q') (sub : ∀ i ∈ gvs, i ∈ own.map (·.2))
    (hg : ∀ (s : Shared) (H : Hp) (C : Addr) (cl : List (Str × Addr)) (fp : List Addr), PG (X.blk s H scope (compEnvC scope cl C X.env) fp) tg g)
    (ht : ∀ w (s : Shared) (H : Hp) (C : Addr) (cl : List (Str × Addr)) (fp : List Addr), PTsd (X.blk s H scope (compEnvC scope cl C X.env) fp) w ifs tt)
    (he : ∀ w (s : Shared) (H : Hp) (C : Addr) (cl : List (Str × Addr)) (fp : List Addr), PEd (X.blk s H scope (compEnvC scope cl C X.env) fp) w elt te)
    (s0 : Shared) (hsw : swapsWith (.ListComp elt [⟨tg, iter, ifs, 0⟩] scope pos) (some (.Name y py)) spos.line X.env = pure true) (hy : X.N[i]? = some y := by rfl) (hyl : X.env.scope.names.lookup y = some .local := by rfl) (hc : X.calm = true := by rfl) (hs : ∀ x, foldedSetIterable iter X.env x = pure x := by intro _; rfl) :
    PSd X w (.Assign [.Name y py] (.ListComp elt [⟨tg, iter, ifs, 0⟩] scope pos) spos) (fun E r => dLcK wd gd tt te (own.map (·.2)) (openE r) fun ds => noLs ds = true ∧ E.nx (r.set i (.own ds))) := by
  have mt := (ht w s0 (fun _ => none) 0 [] []).mo
  have me := (he w s0 (fun _ => none) 0 [] []).mo
  have mi := (hi w).mo
  refine ⟨⟨fun pins s σ H D I q => ?_⟩, fun E E' r l h => mi _ _ _ (fun ds => lcK_mo G.mo mt me (fun d z => ⟨z.1, l.nx _ z.2⟩) ds []) h⟩
  obtain ⟨W, own', r, S, z⟩ := q
  refine (ps_setLc (i := i) (wi := liI X.K ⟨H, w.g, shut W own' r⟩ wd) (tt := liT X.K ⟨H, w.g, shut W own' r⟩ tt) (te := liE X.K ⟨H, w.g, shut W own' r⟩ te) hc hN hy hyl hsw (hi _).pi ok hg (fun s H C cl fp => (ht _ s H C cl fp).pt) (fun s H C cl fp => (he _ s H C cl fp).pe) hs).run pins s σ H D I ?_
  refine lcF_in (w := ⟨H, w.g, shut W own' r⟩) G gmo sub mt me mi S.opened (mi _ _ _ (fun ds => lcK_mo G.mo mt me (fun es z p xs H1 e1 k1 np dv => ?_) ds []) z)
  have S1 := S.ext e1 (S.shutOk e1 k1)
  obtain ⟨⟨own2, S2⟩, gr⟩ := S1.newOwn i np (DvAll.sees (S.seesBack e1) _ _ z.1 dv)
  exact z.2 _ own2 _ _ ((Grow.of (S.shutOk e1 k1) e1).trans gr) S2
end
end Pd
/-! Defs of several statements that return a new value (or plain data). -/
namespace Pd
open PySem PySem.Spec PyProof.Rows L2
structure EnV extends EnD where
  rv : Da → Prop
abbrev TDV := EnV → En → Prop
def endV (K : PySem.W.Frag) (w : Wd) (W : Addr → Bool) (H : Hp) (E : Ends) : EnV := { endD K w W H E with rv := AftN K w.g w.W0 w.H0 E.rt }
structure LeV (E E' : EnV) : Prop where
  le : Le E.toEnD E'.toEnD
  rv : ∀ d, E.rv d → E'.rv d
structure PSsV (X : Cx) (w : Wd) (st : List Stmt) (t : TDV) : Prop where
  ps : PSs X st (fun E σ H => ∃ W own r, Stt X.K w W own r σ H ∧ t (endV X.K w W H E) r)
  mo : ∀ E E' r, LeV E E' → t E r → t E' r
section
variable {X : Cx} {w : Wd} {e : Expr} {st : Stmt} {rest : List Stmt} {pos : Pos} {t : TDS} {tt : TDT} {u v : TDV}
end
end Pd
/-! xs.index(i), xs a list of numbers. -/
namespace Pd
open PySem PySem.Spec PyProof.Rows L2
def dIndexI (to te : TDE) : TDE := fun r Q => to r fun x => ∃ is : List Int, x = .lst (is.map .int) ∧ te r fun y => ∃ (i : Int) (j : Nat), y = .int i ∧ is[j]? = some i ∧ (∀ m < j, is[m]? ≠ some i) ∧ Q (.int (j : Nat))
section
variable {X : Cx} {w : Wd} {o e : Expr} {to te : TDE} {apos cpos : Pos}
theorem ped_indexI (ho : PEd X w o to) (he : PEd X w e te)
    (hbase : attributeBase o "index" X.env (eval o X.env) = eval o X.env := by rfl)
    (hfew : ((backTo cpos (starEach [e] X.env)).all (fun x => !x.1) && (backToKw cpos (keywordEach [] X.env)).all (fun x => x.1.isSome) && decide (([e] : List Expr).length + ([] : List Keyword).length + (if ([] : List Keyword).isEmpty then 0 else 1) < 30)) = true := by rfl)
    (hline : (apos.endLine == cpos.line) = true := by rfl) (hst : starEach [e] X.env = (false, eval e X.env) :: starEach [] X.env := by rfl) (hpl : (backTo cpos (starEach [] X.env)).any (·.1) = false := by rfl) :
    PEd X w (.Call (.Attribute o "index" apos) [e] [] cpos) (dIndexI to te) := by
  refine ⟨weE (pe_bm PySem.F.plainAttrs_list PySem.F.slot_list_index PySem.F.type_list_index mt_index ho.pe (pa_cons he.pe pa_nil hst) hbase hfew hline hst hpl) ?_, fun r Q Q' q h => ho.mo _ _ _ (fun x ⟨is, a, z⟩ => ⟨is, a, he.mo _ _ _ (fun y ⟨i, j, b, c, d, z⟩ => ⟨i, j, b, c, d, q _ z⟩) z⟩) h⟩
  rintro σ H Q ⟨W, own, r, S, h⟩
  refine go1 ho S h fun x v H1 e1 k1 d1 z => ?_
  obtain ⟨is, rfl, z⟩ := z
  cases d1 with
  | @lst a us _ a1 a2 =>
    have ei := a2.ints
    subst ei
    refine ⟨.inl ⟨rfl, _, SqL.of (hid_some a1).2⟩, ?_⟩
    refine go1 he (S.ext e1 k1) z fun y u H2 e2 k2 d2 z => ?_
    obtain ⟨i, j, rfl, hj, hno, z⟩ := z
    cases d2
    have a1' := e2.hid k1.gW _ _ a1
    refine ⟨a, is.map V.int, .int i, j, .int i, rfl, rfl, SqL.of (hid_some a1').2, rfl, ?_, ?_, ?_, fun m z' hm hz => ?_, z (.int (j : Nat)) H2 (e1.trans e2) k2 (.int _)⟩
    · rw [List.all_map, List.all_eq_true]
      exact fun _ _ => rfl
    · rw [List.getElem?_map, hj]; rfl
    · show (i == i) = true
      exact beq_self_eq_true i
    · rw [List.getElem?_map] at hz
      obtain ⟨n, hn, rfl⟩ := Option.map_eq_some_iff.mp hz
      show (n == i) = false
      rw [beq_eq_false_iff_ne]
      intro e
      exact hno m hm (by rw [hn, e])
end
end Pd
/-! Two names at once, one of them a new list; x is None. -/
namespace Pd
open PySem PySem.Spec PyProof.Rows L2
section
variable {X : Cx} {w : Wd} {a b : Expr} {pos : Pos}
theorem psd_parFE {i j : Nat} {x y : Str} {px py pt : Pos} {kt k2 pt2} {ta : TDA} {tb : TDE} (ha : PFd X w a ta) (hb : PEd X w b tb) (hN : X.N.Nodup) (hc : X.calm = true := by rfl) (hi : X.N[i]? = some x := by rfl) (hj : X.N[j]? = some y := by rfl) (hij : i ≠ j := by decide)
    (hx : X.env.scope.names.lookup x = some .local := by rfl) (hy : X.env.scope.names.lookup y = some .local := by rfl) (hs1 : starEach (a :: [b]) X.env = (false, eval a X.env) :: starEach [b] X.env := by rfl) (hs2 : starEach (b :: []) X.env = (false, eval b X.env) :: starEach [] X.env := by rfl)
    (hw : swappedStores [.Tuple [.Name x px, .Name y py] kt pt] (.Tuple [a, b] k2 pt2) X.env = pure (some [x, y]) := by rfl)
    (hs : swapsWithSole [.Tuple [.Name x px, .Name y py] kt pt] (.Tuple [a, b] k2 pt2) pos.line X.env = pure false := by rfl) :
    PSd X w (.Assign [.Tuple [.Name x px, .Name y py] kt pt] (.Tuple [a, b] k2 pt2) pos) (fun E r => ta r fun ds => tb r fun d => E.nx ((r.set i (.own ds)).set j (.dat d))) := by
  refine ⟨weS (ps_par hc hN hi hj hij hx hy (pa_cons ha.pe (pa_cons hb.pe pa_nil hs2) hs1) hw hs) ?_, fun E E' r l h => ha.mo _ _ _ (fun d => hb.mo _ _ _ (fun d => l.nx _)) h⟩
  rintro D σ H ⟨W, own, r, S, h⟩
  refine ⟨W, own, r, S, ha.mo _ _ _ (fun ds z p xs H1 e1 k1 np dv => ?_) h⟩
  have S1 := S.ext e1 k1
  obtain ⟨S2, gr2', sm2, ge, h0, oN⟩ := S1.hideO (o := .lst xs) np
  have gr2 : Grow w.g W H (hideD W p) (upd H1 p (.lst xs)) := (Grow.of k1 e1).trans gr2'
  refine ⟨hideD W p, own, r, S2, hb.mo _ _ _ (fun d y v H3 e3 k3 dv2 => ?_) z⟩
  have S3 := S2.ext e3 k3
  have hp3 : H3 p = some (.lst xs) := e3 p _ ge upd_same
  have S4 := S3.takeOwn i (ds := ds) hideD_at h0 ge oN hp3 (DvAll.mono (fun a o q => (e3.hid S2.ok.gW) a o (sm2 a o q)) _ _ dv)
  obtain ⟨own5, S5⟩ := S4.set (i := j) dv2
  exact ⟨.ref p, v, rfl, y _ own5 _ _ (gr2.trans (Grow.of k3 e3)) S5⟩
/-! ### None -/
variable {ta tb : TDE}
end
end Pd
/-! A tuple of a new list and a datum: made, held, its list added to, let go. -/
namespace Pd
open PySem PySem.Spec PyProof.Rows L2
section
variable {X : Cx} {w : Wd} {a b e : Expr} {pos p2 : Pos} {ta : TDA} {tb te : TDE}
end
end Pd
/-! x, y = e, (a new list, a datum); three statements; y[0].append(None): y is held meanwhile. -/
namespace Pd
open PySem PySem.Spec PyProof.Rows L2
/-- what is held: nothing of it is told but where it is -/
def held (tp : Addr) : Da := .fix fun _ v => v = .ref tp
section
variable {X : Cx} {w : Wd} {a b : Expr} {pos : Pos} {ta tb : TDE}
end
section
variable {K : PySem.W.Frag} {w : Wd} {W : Addr → Bool} {own : Ow} {r : En} {σ : L2.St} {H H1 : Hp}
end
end Pd
/-! x, y = e, (a new list, a datum) or None; three statements; y[0].append(None). -/
namespace Pd
open PySem PySem.Spec PyProof.Rows L2
section
variable {X : Cx} {s2 s3 s4 : Stmt} {t2 t3 t4 : TDS} {T5 : TS}
end
section
variable {X : Cx} {w : Wd} {a b : Expr} {pos : Pos} {s2 s3 s4 : Stmt} {rest : List Stmt} {t2 t3 t4 u : TDS}
end
end Pd
/-! y = x, where x is a list of one's own: from there on a datum, both. -/
namespace Pd
open PySem PySem.Spec PyProof.Rows L2
section
variable {K : PySem.W.Frag} {w : Wd} {W : Addr → Bool} {own : Ow} {r : En} {σ : L2.St} {H : Hp}
def showD (W : Addr → Bool) (a : Addr) : Addr → Bool := fun b => !decide (b = a) && W b
theorem showD_le {W : Addr → Bool} {a b : Addr} (h : showD W a b = true) : W b = true := by
  unfold showD at h
  simp at h
  exact h.2
theorem showD_ne {W : Addr → Bool} {a b : Addr} (n : b ≠ a) : showD W a b = W b := by
  unfold showD
  simp [n]
theorem showD_at {W : Addr → Bool} {a : Addr} : showD W a a = false := by simp [showD]
theorem Stt.give (S : Stt K w W own r σ H) (hw : WOk w) {i : Nat} {ds : List Da} (hr : r[i]? = some (.own ds)) : ∃ v W' own', σ[i]? = some (some v) ∧ Stt K w W' own' (r.set i (.dat (.lst ds))) σ H ∧ Grow w.g W H W' H ∧ Dv K w.g (hid W' H) v (.lst ds) := by
  obtain ⟨v, hv, a, xs, o1, rfl, o3, o4⟩ := S.sl i _ hr (fun z => by cases z)
  obtain ⟨w1, w2, w3⟩ := S.oW i a o1.1
  have sm : Sm (hid W H) (hid (showD W a) H) := hid_le fun b h => showD_le h
  have na : ∀ k b, k ≠ i → own k b → b ≠ a := fun k b n h z => n (S.inj k i b h (by rw [z]; exact o1.1)).1
  have dv : Dv K w.g (hid (showD W a) H) (.ref a) (.lst ds) := .lst (by rw [hid_no showD_at]; exact o3) (DvAll.mono sm _ _ o4)
  refine ⟨.ref a, showD W a, fun k b => k ≠ i ∧ own k b, hv, ⟨S.ok.less (fun _ h => showD_le h) (fun b hb => ?_), S.base, fun b hb => ?_, S.g0, (fun b h => S.wN b (showD_le h)), fun k b h => ?_, fun k j b h1 h2 => S.inj k j b h1.2 h2.2, by rw [List.length_set]; exact S.len, fun k d h n => ?_⟩, ⟨fun _ _ _ _ h => h, fun _ h => h, fun b h => .inl (showD_le h)⟩, dv⟩
  · rw [showD_ne fun z => w3 (by rw [← z]; exact hb)]
    exact S.ok.gW b hb
  · rw [showD_ne fun z => ?_]
    · exact S.w0 b hb
    · rw [z] at hb
      obtain ⟨o, q⟩ := hw a hb
      rw [q] at w2
      cases w2
  · obtain ⟨q1, q2, q3⟩ := S.oW k b h.2
    exact ⟨by rw [showD_ne (na k b h.1 h.2)]; exact q1, q2, q3⟩
  · by_cases hk : k = i
    · subst hk
      have hl : k < r.length := (List.getElem?_eq_some_iff.mp hr).1
      rw [List.getElem?_set_self hl] at h
      cases h
      exact ⟨_, hv, dv⟩
    · rw [List.getElem?_set_ne (Ne.symm hk)] at h
      obtain ⟨u, q1, q2⟩ := S.sl k d h n
      refine ⟨u, q1, ?_⟩
      cases d with
      | no => trivial
      | dat d => exact Dv.mono sm _ _ q2
      | own es =>
        obtain ⟨b, zs, p1, p2, p3, p4⟩ := q2
        exact ⟨b, zs, p1.off hk, p2, p3, DvAll.mono sm _ _ p4⟩
      | reg es =>
        obtain ⟨b, zs, p1, p2, p3, p4⟩ := q2
        exact ⟨b, zs, ⟨hk, p1⟩, p2, p3, DvAll.mono (cutAt_sm (vis_up (fun c o q z => ⟨⟨hk, q⟩, z⟩) sm)) _ _ p4⟩
      | od es =>
        obtain ⟨b, zs, p1, p2, p3, p4⟩ := q2
        exact ⟨b, zs, p1.off hk, p2, p3, KvAll.mono sm _ _ p4⟩
end
section
variable {X : Cx} {w : Wd}
theorem psd_give {i j : Nat} {x y : Str} {p pos pos' : Pos} (hw : WOk w) (hN : X.N.Nodup) (hix : X.N[i]? = some x := by rfl) (hi : X.N[j]? = some y := by rfl) (hvx : Vis X.env.scope x := by first | exact Or.inl rfl | exact Or.inr (Or.inl rfl) | exact Or.inr (Or.inr rfl)) (hdx : (x == ("__debug__" : Str)) = false := by decide) (hcdx : (x == ("__classdict__" : Str)) = false := by decide)
    (hx : Loc X.env.scope y := by first | exact .inl rfl | exact .inr rfl) (hs : swapsWith (.Name x p) (some (.Name y pos')) pos.line X.env = pure false := by rfl)
    (hf : X.fn y = true ∨ X.env.scope.names.lookup y = some .local := by first | exact .inl rfl | exact .inr rfl) : PSd X w (.Assign [.Name y pos'] (.Name x p) pos) (fun E r => ∃ ds, r[i]? = some (.own ds) ∧ E.nx ((r.set i (.dat (.lst ds))).set j (.dat (.lst ds)))) := by
  refine ⟨weS (ps_set hN hi hx (pv i hix hvx hdx hcdx) hs hf) ?_, fun E E' r l ⟨ds, h1, h2⟩ => ⟨ds, h1, l.nx _ h2⟩⟩
  rintro D σ H ⟨W, own, r, S, ds, hr, h⟩
  obtain ⟨v, W', own', hv, S', gr, dv⟩ := S.give hw hr
  obtain ⟨own2, S2⟩ := S'.set (i := j) dv
  exact ⟨v, hv, h W' own2 _ H gr S2⟩
end
end Pd
/-! Defs whose own lists become data: y = x, return x. -/
namespace Pd
open PySem PySem.Spec PyProof.Rows L2
section
variable {X : Cx} {w : Wd}
theorem psd_retOwn (i : Nat) {x : Str} {p pos : Pos} (hw : WOk w) (hN : X.N[i]? = some x := by rfl) (hv : Vis X.env.scope x := by first | exact Or.inl rfl | exact Or.inr (Or.inl rfl) | exact Or.inr (Or.inr rfl)) (hd : (x == ("__debug__" : Str)) = false := by decide) (hcd : (x == ("__classdict__" : Str)) = false := by decide) :
    PSd X w (.Return (some (.Name x p)) pos) (fun E r => ∃ ds, r[i]? = some (.own ds) ∧ E.rt (.lst ds)) := by
  refine ⟨weS (ps_ret (pv i hN hv hd hcd)) ?_, fun E E' r l ⟨ds, h1, h2⟩ => ⟨ds, h1, l.rt _ h2⟩⟩
  rintro D σ H ⟨W, own, r, S, ds, hr, h⟩
  obtain ⟨v, W', own', hv, S', gr, dv⟩ := S.give hw hr
  exact ⟨v, hv, ret_ok (W := W') S' h H Ext.refl S'.ok dv⟩
end
theorem defCW {P : Program} {wd : World} {K : PySem.W.Frag} {mg : Str → Option Value} {base : Heap} {x : Str} {st : Stmt} {N ps : List Str} {k : Nat} {p : DSp} (At : DefAt K mg x st ps)
    (S : FnScope N ps (defScope st)) (len : ∀ ds Q, p ds Q → ds.length = ps.length) (mp : MoP p)
    (inside : ∀ (f : Addr) (cdv : Value) (A : Around) (outer : List Env) (s0 : Shared) (H : Hp) (E : XK) (w : Wd) (ds : List Da) (Q : Da → Prop), Room k (A.deeper (envOfC x (defScope st) s0.heap.objs.size f cdv)) → A.guards = some [] → WOk w → p ds Q →
      ∃ t, PSsd (cxOf CX0 P wd K mg base N x (defScope st) f cdv A outer s0 H E).nox w (defBody st) t ∧ t { nx := fun _ => Q .non, rt := Q } (startD N ds)) :
    Calld P wd K mg base (k + 1) x ps p := by
  obtain ⟨f, fd, F, a, b⟩ := At.ex
  refine ⟨⟨f, fd, FunG.ok F S ?_ ?_, a, F.kp, b⟩, mp⟩
  · rintro vs H Q E ⟨g, W, ds, k1, dv, h⟩
    rw [dv.len]
    exact len _ _ h
  · rintro cdv A outer s0 H vs Q E room hG ⟨g, W, ds, k1, dv, h⟩
    obtain ⟨t, ht, hq⟩ := inside f cdv A outer s0 H E ⟨H, g, W⟩ ds _ room hG (fun a ha => k1.al a ha) h
    refine ⟨_, ht.ps, W, fun _ _ => False, startD N ds, start_stt k1 dv, ht.mo { nx := fun _ => Aft K g W H Q .non, rt := Aft K g W H Q } _ _ ⟨fun r' q W' o' σ' H' g' S' => ?_, fun d q v H' e1 k2 d2 => q v H' e1 k2 d2, fun _ q => q.elim, fun _ q => q.elim⟩ hq⟩
    have z := ret_ok (E := { nx := fun _ H' => Q .non H', rt := Q }) (d := .non) (v := V.non) S' (fun v H1 e1 k2 d2 => q v H1 e1 k2 d2) H' Ext.refl S'.ok .non
    exact z
end Pd
/-! name = [.. for x in ..], a list of one's own of any data. -/
namespace Pd
open PySem PySem.Spec PyProof.Rows L2
section
variable {X : Cx} {w : Wd} {pos : Pos}
theorem psd_setLcF {i : Nat} {y : Str} {py spos : Pos} {elt tg iter : Expr} {ifs : List Expr} {scope : Scope} {own : List (Str × Nat)} {g : TG} {gd : TDG} {gvs : List Nat} {wd : TDI} {tt : TDT} {te : TDE} (hN : X.N.Nodup) (hi : PId X w tg iter wd) (ok : BlkOk X.N X.env.scope scope own)
    (G : GDs X.K g gd gvs) (gmo : ∀ v σ H Q Q', (∀ a b, Q a b → Q' a b) → g v σ H Q → g v σ H Q') (sub : ∀ i ∈ gvs, i ∈ own.map (·.2))
    (hg : ∀ (s : Shared) (H : Hp) (C : Addr) (cl : List (Str × Addr)) (fp : List Addr), PG (X.blk s H scope (compEnvC scope cl C X.env) fp) tg g)
    (ht : ∀ (s : Shared) (H : Hp) (C : Addr) (cl : List (Str × Addr)) (fp : List Addr), PTsd (X.blk s H scope (compEnvC scope cl C X.env) fp) w ifs tt)
    (he : ∀ (s : Shared) (H : Hp) (C : Addr) (cl : List (Str × Addr)) (fp : List Addr), PEd (X.blk s H scope (compEnvC scope cl C X.env) fp) w elt te)
    (s0 : Shared) (hsw : swapsWith (.ListComp elt [⟨tg, iter, ifs, 0⟩] scope pos) (some (.Name y py)) spos.line X.env = pure true) (hy : X.N[i]? = some y := by rfl) (hyl : X.env.scope.names.lookup y = some .local := by rfl) (hc : X.calm = true := by rfl) (hs : ∀ x, foldedSetIterable iter X.env x = pure x := by intro _; rfl) :
    PSd X w (.Assign [.Name y py] (.ListComp elt [⟨tg, iter, ifs, 0⟩] scope pos) spos) (dSetF (dLcK wd gd tt te (own.map (·.2))) i) := by
  have mt := (ht s0 (fun _ => none) 0 [] []).mo
  have me := (he s0 (fun _ => none) 0 [] []).mo
  refine ⟨weS (ps_setLc (i := i) (wi := liI X.K w wd) (tt := liT X.K w tt) (te := liE X.K w te) hc hN hy hyl hsw hi.pi ok hg (fun s H C cl fp => (ht s H C cl fp).pt) (fun s H C cl fp => (he s H C cl fp).pe) hs) ?_, fun E E' r l h => hi.mo _ _ _ (fun ds => lcK_mo G.mo mt me (fun d z => l.nx _ z) ds []) h⟩
  rintro D σ H ⟨W, own', r, S, z⟩
  refine lcF_in G gmo sub mt me hi.mo S (hi.mo _ _ _ (fun ds => lcK_mo G.mo mt me (fun es z p xs H1 e1 k1 np dv => ?_) ds []) z)
  have S1 := S.ext e1 k1
  obtain ⟨⟨own2, S2⟩, gr⟩ := S1.newOwn i np dv
  exact z _ own2 _ _ ((Grow.of k1 e1).trans gr) S2
end
end Pd
/-! Rows of whole numbers: mixtures, steps, and how great the first parts of steps can be. -/
namespace El
abbrev Vc := Nat → Int
/-- the mixtures of G -/
inductive Lat (G : List Vc) : Vc → Prop
  | zero : Lat G (fun _ => 0)
  | add {x g : Vc} (k : Int) : Lat G x → g ∈ G → Lat G (fun i => x i + k * g i)
theorem Lat.of {G : List Vc} {g : Vc} (h : g ∈ G) : Lat G g := by
  have z := Lat.add 1 Lat.zero h
  have e : (fun i => (fun _ => (0 : Int)) i + 1 * g i) = g := funext fun i => by simp
  rwa [e] at z
theorem Lat.sum {G : List Vc} {x y : Vc} (hx : Lat G x) (hy : Lat G y) : Lat G (fun i => x i + y i) := by
  induction hy with
  | zero =>
    have e : (fun i => x i + (fun _ => (0 : Int)) i) = x := funext fun i => by simp
    rw [e]; exact hx
  | @add y g k hy hg ih =>
    have e : (fun i => x i + (y i + k * g i)) = fun i => (x i + y i) + k * g i := funext fun i => by omega
    rw [e]
    exact ih.add k hg
theorem Lat.mul {G : List Vc} {x : Vc} (c : Int) (hx : Lat G x) : Lat G (fun i => c * x i) := by
  induction hx with
  | zero =>
    have e : (fun i => c * (fun _ => (0 : Int)) i) = (fun _ : Nat => (0 : Int)) := funext fun i => by simp
    rw [e]; exact .zero
  | @add y g k hy hg ih =>
    have e : (fun i => c * (y i + k * g i)) = fun i => c * y i + (c * k) * g i := funext fun i => by rw [Int.mul_add, Int.mul_assoc]
    rw [e]
    exact ih.add _ hg
theorem Lat.sub {G : List Vc} {x y : Vc} (k : Int) (hx : Lat G x) (hy : Lat G y) : Lat G (fun i => x i - y i * k) := by
  have z := hx.sum (hy.mul (-k))
  have e : (fun i => x i + -k * y i) = fun i => x i - y i * k := funext fun i => by rw [Int.neg_mul, Int.mul_comm k]; omega
  rwa [e] at z
theorem Lat.mono {G G' : List Vc} {x : Vc} (h : ∀ g ∈ G, Lat G' g) (hx : Lat G x) : Lat G' x := by
  induction hx with
  | zero => exact .zero
  | @add y g k hy hg ih => exact ih.sum ((h g hg).mul k)
theorem Lat.sub_of {G G' : List Vc} {x : Vc} (h : ∀ g ∈ G, g ∈ G') (hx : Lat G x) : Lat G' x := hx.mono fun g hg => .of (h g hg)
theorem Lat.zeros {G : List Vc} {x : Vc} {i : Nat} (h : ∀ g ∈ G, g i = 0) (hx : Lat G x) : x i = 0 := by
  induction hx with
  | zero => rfl
  | @add y g k hy hg ih =>
    show y i + k * g i = 0
    rw [ih, h g hg]; simp
theorem Lat.head {g : Vc} {G : List Vc} {x : Vc} (hx : Lat (g :: G) x) : ∃ k y, Lat G y ∧ x = fun i => k * g i + y i := by
  induction hx with
  | zero => exact ⟨0, _, .zero, funext fun i => by simp⟩
  | @add y h c hy hh ih =>
    obtain ⟨k, z, hz, rfl⟩ := ih
    rcases List.mem_cons.mp hh with e | e
    · subst e
      exact ⟨k + c, z, hz, funext fun i => by show k * h i + z i + c * h i = (k + c) * h i + z i; rw [Int.add_mul]; omega⟩
    · exact ⟨k, _, hz.add c e, funext fun i => by show k * g i + z i + c * h i = k * g i + (z i + c * h i); omega⟩
/-! ### first places -/
structure Fp (x : Vc) (q : Nat) : Prop where
  nz : x q ≠ 0
  zs : ∀ i < q, x i = 0
theorem Fp.uniq {x : Vc} {p q : Nat} (h : Fp x p) (h' : Fp x q) : p = q := by
  rcases Nat.lt_trichotomy p q with l | e | l
  · exact absurd (h'.zs p l) h.nz
  · exact e
  · exact absurd (h.zs q l) h'.nz
theorem Fp.mul {x : Vc} {q : Nat} {D : Int} (h : Fp x q) (hD : D ≠ 0) : Fp (fun i => D * x i) q :=
  ⟨fun e => (Int.mul_eq_zero.mp e).elim hD h.nz, fun i l => by show D * x i = 0; rw [h.zs i l]; simp⟩
/-- rows in steps: nought before n, each row begins later than the one above -/
inductive Ech : Nat → List Vc → Prop
  | nil {n : Nat} : Ech n []
  | cons {n q : Nat} {s : Vc} {ss : List Vc} : Fp s q → n ≤ q → Ech (q + 1) ss → Ech n (s :: ss)
theorem Ech.zero : ∀ {n : Nat} {ss : List Vc}, Ech n ss → ∀ s ∈ ss, ∀ i < n, s i = 0
  | _, _, .nil, _, h, _, _ => nomatch h
  | _, _, .cons f l e, s, h, i, hi => by
    rcases List.mem_cons.mp h with rfl | h
    · exact f.zs i (by omega)
    · exact Ech.zero e s h i (by omega)
theorem Ech.down {n m : Nat} {ss : List Vc} (h : Ech n ss) (l : m ≤ n) : Ech m ss := by
  cases h with
  | nil => exact .nil
  | cons f l2 e => exact .cons f (Nat.le_trans l l2) e
theorem Ech.lat {n : Nat} {ss : List Vc} (h : Ech n ss) {x : Vc} (hx : Lat ss x) : ∀ i < n, x i = 0 := fun i hi => hx.zeros fun g hg => h.zero g hg i hi
theorem Ech.fp : ∀ {n : Nat} {ss : List Vc}, Ech n ss → ∀ {x : Vc} {q : Nat}, Lat ss x → Fp x q → ∃ s ∈ ss, Fp s q ∧ s q ∣ x q
  | _, _, .nil, x, q, hx, f => absurd (hx.zeros fun _ h => absurd h List.not_mem_nil) f.nz
  | _, _, .cons (q := q0) (s := s) (ss := ss) f0 l e, x, q, hx, f => by
    obtain ⟨k, y, hy, rfl⟩ := hx.head
    have y0 : y q0 = 0 := e.lat hy q0 (Nat.lt_succ_self _)
    by_cases hk : k = 0
    · subst hk
      have ex : (fun i => 0 * s i + y i) = y := funext fun i => by simp
      rw [ex] at f ⊢
      obtain ⟨t, ht, h1, h2⟩ := Ech.fp e hy f
      exact ⟨t, List.mem_cons_of_mem _ ht, h1, h2⟩
    · have f2 : Fp (fun i => k * s i + y i) q0 := ⟨by
        show k * s q0 + y q0 ≠ 0
        rw [y0, Int.add_zero]
        exact fun z => (Int.mul_eq_zero.mp z).elim hk f0.nz, fun i hi => by
        show k * s i + y i = 0
        rw [f0.zs i hi, e.lat hy i (by omega)]; simp⟩
      have eq := f.uniq f2
      subst eq
      refine ⟨s, List.mem_cons_self, f0, ⟨k, ?_⟩⟩
      show k * s q + y q = s q * k
      rw [y0, Int.add_zero, Int.mul_comm]
theorem Ech.one : ∀ {n : Nat} {ss : List Vc}, Ech n ss → ∀ {s t : Vc} {q : Nat}, s ∈ ss → t ∈ ss → Fp s q → Fp t q → s = t
  | _, _, .nil, _, _, _, h, _, _, _ => nomatch h
  | _, _, .cons f0 l e, s, t, q, hs, ht, f, f' => by
    rcases List.mem_cons.mp hs with h1 | h1
    · rcases List.mem_cons.mp ht with h2 | h2
      · rw [h1, h2]
      · rw [h1] at f
        have := f0.uniq f
        subst this
        exact absurd (e.zero t h2 _ (Nat.lt_succ_self _)) f'.nz
    · rcases List.mem_cons.mp ht with h2 | h2
      · rw [h2] at f'
        have := f0.uniq f'
        subst this
        exact absurd (e.zero s h1 _ (Nat.lt_succ_self _)) f.nz
      · exact Ech.one e h1 h2 f f'
/-! ### small rows that begin where steps begin -/
def Fb : Nat → Nat → Nat
  | 0, B => B
  | n + 1, B => Fb n (2 * (B * B))
theorem Fb_up : ∀ (n : Nat) {B C : Nat}, B ≤ C → Fb n B ≤ Fb n C
  | 0, _, _, h => h
  | n + 1, B, C, h => Fb_up n (Nat.mul_le_mul_left 2 (Nat.mul_le_mul h h))
theorem sq_up (B : Nat) : B ≤ 2 * (B * B) := by
  rcases Nat.eq_zero_or_pos B with e | e
  · subst e; exact Nat.le_refl _
  · have := Nat.le_mul_of_pos_right B e
    omega
theorem Fb_succ (n B : Nat) : Fb n B ≤ Fb (n + 1) B := Fb_up n (sq_up B)
theorem Fb_le {n m : Nat} (h : n ≤ m) (B : Nat) : Fb n B ≤ Fb m B := by
  induction h with
  | refl => exact Nat.le_refl _
  | step _ ih => exact Nat.le_trans ih (Fb_succ _ B)
theorem Fb_self (n B : Nat) : B ≤ Fb n B := Fb_le (Nat.zero_le n) B
/-- how great a part can be where no step begins, if those where steps begin are at most P -/
def Wb : Nat → Nat → Nat → Nat
  | 0, _, _ => 0
  | n + 1, B, P => Wb n (2 * (B * B)) (2 * (B * P)) + P * B
def crs (g : Vc) (j : Nat) (h : Vc) : Vc := fun i => g j * h i - h j * g i
theorem crs_le {g h : Vc} {j B : Nat} (hg : ∀ i, (g i).natAbs ≤ B) (hh : ∀ i, (h i).natAbs ≤ B) (i : Nat) : (crs g j h i).natAbs ≤ 2 * (B * B) := by
  have a : (g j * h i).natAbs ≤ B * B := by rw [Int.natAbs_mul]; exact Nat.mul_le_mul (hg j) (hh i)
  have b : (h j * g i).natAbs ≤ B * B := by rw [Int.natAbs_mul]; exact Nat.mul_le_mul (hh j) (hg i)
  unfold crs
  omega
/-- small steps of mixtures of G that begin wherever a mixture of G begins -/
theorem small : ∀ (d j n B : Nat) (G : List Vc), G.length ≤ n → (∀ g ∈ G, (∀ i < j, g i = 0) ∧ (∀ i, j + d ≤ i → g i = 0) ∧ ∀ i, (g i).natAbs ≤ B) →
    ∃ E, Ech j E ∧ (∀ e ∈ E, Lat G e ∧ ∀ i, (e i).natAbs ≤ Fb n B) ∧ (∀ x, Lat G x → ∃ D : Int, D ≠ 0 ∧ Lat E (fun i => D * x i)) ∧
      ∀ (x : Vc) (P : Nat), (∃ D : Int, D ≠ 0 ∧ Lat G (fun i => D * x i)) → (∀ q, (∃ e ∈ E, Fp e q) → (x q).natAbs ≤ P) → ∀ i, (x i).natAbs ≤ Wb n B P
  | 0, j, n, B, G, hl, hG => by
    have nought : ∀ x, Lat G x → ∀ i, x i = 0 := fun x hx i => hx.zeros fun g hg => by
      rcases Nat.lt_or_ge i j with l | l
      · exact (hG g hg).1 i l
      · exact (hG g hg).2.1 i (by omega)
    refine ⟨[], .nil, (fun _ h => absurd h List.not_mem_nil), fun x hx => ⟨1, by decide, ?_⟩, fun x P ⟨D, hD, hx⟩ _ i => by
      have z : D * x i = 0 := nought _ hx i
      rw [(Int.mul_eq_zero.mp z).resolve_left hD]
      exact Nat.zero_le _⟩
    have e : (fun i => 1 * x i) = (fun _ : Nat => (0 : Int)) := funext fun i => by
      have : x i = 0 := hx.zeros fun g hg => by
        rcases Nat.lt_or_ge i j with l | l
        · exact (hG g hg).1 i l
        · exact (hG g hg).2.1 i (by omega)
      rw [this]; simp
    rw [e]; exact .zero
  | d + 1, j, n, B, G, hl, hG => by
    by_cases hz : ∀ g ∈ G, g j = 0
    · obtain ⟨E, h1, h2, h3⟩ := small d (j + 1) n B G hl fun g hg => ⟨fun i hi => by
        rcases Nat.lt_or_eq_of_le (Nat.le_of_lt_succ hi) with l | l
        · exact (hG g hg).1 i l
        · rw [l]; exact hz g hg, fun i hi => (hG g hg).2.1 i (by omega), (hG g hg).2.2⟩
      exact ⟨E, h1.down (Nat.le_succ _), h2, h3⟩
    · simp only [Classical.not_forall] at hz
      obtain ⟨g, hg, gj⟩ := hz
      obtain ⟨A, C, rfl⟩ := List.append_of_mem hg
      have hgG := hG g hg
      have mem : ∀ h ∈ A ++ C, h ∈ A ++ g :: C := fun h hh => by
        rcases List.mem_append.mp hh with z | z
        · exact List.mem_append_left _ z
        · exact List.mem_append_right _ (List.mem_cons_of_mem _ z)
      obtain ⟨n, rfl⟩ : ∃ n', n = n' + 1 := by
        cases n with
        | zero => simp at hl
        | succ n => exact ⟨n, rfl⟩
      obtain ⟨E, h1, h2, h3⟩ := small d (j + 1) n (2 * (B * B)) ((A ++ C).map (crs g j)) (by
        rw [List.length_map]
        simp only [List.length_append, List.length_cons] at hl ⊢
        omega) fun h' hh' => by
          obtain ⟨h, hh, rfl⟩ := List.mem_map.mp hh'
          have z := hG h (mem h hh)
          refine ⟨fun i hi => ?_, fun i hi => ?_, crs_le hgG.2.2 z.2.2⟩
          · show g j * h i - h j * g i = 0
            rcases Nat.lt_or_eq_of_le (Nat.le_of_lt_succ hi) with l | l
            · rw [z.1 i l, hgG.1 i l]; simp
            · rw [l, Int.mul_comm]; omega
          · show g j * h i - h j * g i = 0
            rw [z.2.1 i (by omega), hgG.2.1 i (by omega)]; simp
      have inG : ∀ h' ∈ (A ++ C).map (crs g j), Lat (A ++ g :: C) h' := fun h' hh' => by
        obtain ⟨h, hh, rfl⟩ := List.mem_map.mp hh'
        have z := (Lat.mul (g j) (Lat.of (mem h hh))).sub (h j) (Lat.of hg)
        have e : (fun i => g j * h i - g i * h j) = crs g j h := funext fun i => by unfold crs; rw [Int.mul_comm (g i)]
        rwa [e] at z
      obtain ⟨h3, h4⟩ := h3
      -- g j · x is some g and a mixture of the others
      have key : ∀ x, Lat (A ++ g :: C) x → ∃ k y, Lat ((A ++ C).map (crs g j)) y ∧ (fun i => g j * x i) = fun i => k * g i + y i := fun x hx => by
        clear h2 h3 h4
        induction hx with
        | zero => exact ⟨0, _, .zero, funext fun i => by simp⟩
        | @add x h c hx hh ih =>
          obtain ⟨k, y, hy, e⟩ := ih
          have e' := fun i => congrFun e i
          have hh2 : h = g ∨ h ∈ A ++ C := by
            rcases List.mem_append.mp hh with z | z
            · exact .inr (List.mem_append_left _ z)
            · rcases List.mem_cons.mp z with z | z
              · exact .inl z
              · exact .inr (List.mem_append_right _ z)
          rcases hh2 with rfl | hh2
          · refine ⟨k + h j * c, y, hy, funext fun i => ?_⟩
            have := e' i
            show h j * (x i + c * h i) = _
            rw [Int.mul_add, this, Int.add_mul, Int.mul_assoc]; omega
          · refine ⟨k + c * h j, _, hy.add c (List.mem_map_of_mem hh2), funext fun i => ?_⟩
            have := e' i
            show g j * (x i + c * h i) = _
            rw [Int.mul_add, this, Int.add_mul]
            unfold crs
            rw [Int.mul_sub, Int.mul_assoc c (h j), Int.mul_left_comm (g j) c]; omega
      have at0 : ∀ y, Lat ((A ++ C).map (crs g j)) y → y j = 0 := fun y hy => hy.zeros fun h' hh' => by
        obtain ⟨h, hh, rfl⟩ := List.mem_map.mp hh'
        show g j * h j - h j * g j = 0
        rw [Int.mul_comm]; omega
      refine ⟨g :: E, .cons ⟨gj, hgG.1⟩ (Nat.le_refl _) h1, fun e he => ?_, fun x hx => ?_, fun x P ⟨D, hD, hx⟩ hP i => ?_⟩
      · rcases List.mem_cons.mp he with rfl | he
        · exact ⟨.of hg, fun i => Nat.le_trans (hgG.2.2 i) (Fb_self _ _)⟩
        · exact ⟨(h2 e he).1.mono inG, (h2 e he).2⟩
      · obtain ⟨k, y, hy, e⟩ := key x hx
        obtain ⟨D, hD, hy2⟩ := h3 y hy
        refine ⟨D * g j, fun z => (Int.mul_eq_zero.mp z).elim hD gj, ?_⟩
        have z := (Lat.mul (D * k) (Lat.of (List.mem_cons_self (a := g) (l := E)))).sum (hy2.sub_of fun e he => List.mem_cons_of_mem g he)
        have e2 : (fun i => D * k * g i + D * y i) = fun i => D * g j * x i := funext fun i => by
          have := congrFun e i
          rw [Int.mul_assoc D (g j), this, Int.mul_add, Int.mul_assoc]
        rwa [e2] at z
      · obtain ⟨k, y', hy', e⟩ := key _ hx
        have ek : k = D * x j := by
          have z := congrFun e j
          have z : g j * (D * x j) = k * g j + y' j := z
          rw [at0 y' hy', Int.add_zero, Int.mul_comm] at z
          exact (Int.eq_of_mul_eq_mul_right gj z).symm
        have ey : y' = fun i => D * (g j * x i - x j * g i) := funext fun i => by
          have z : g j * (D * x i) = k * g i + y' i := congrFun e i
          rw [Int.mul_sub, Int.mul_left_comm D (g j), ← Int.mul_assoc D (x j), ← ek, z]; omega
        have px : (x j).natAbs ≤ P := hP j ⟨g, List.mem_cons_self, gj, hgG.1⟩
        have bound : ∀ (a b : Int) (u v : Nat), a.natAbs ≤ u → b.natAbs ≤ v → (a * b).natAbs ≤ u * v := fun a b u v h1 h2 => by rw [Int.natAbs_mul]; exact Nat.mul_le_mul h1 h2
        have yi := h4 (fun i => g j * x i - x j * g i) (2 * (B * P)) ⟨D, hD, by rw [← ey]; exact hy'⟩ (fun q ⟨e, he, f⟩ => by
          have b1 := bound (g j) (x q) B P (hgG.2.2 j) (hP q ⟨e, List.mem_cons_of_mem _ he, f⟩)
          have b2 := bound (x j) (g q) P B px (hgG.2.2 q)
          rw [Nat.mul_comm P B] at b2
          show (g j * x q - x j * g q).natAbs ≤ _
          omega) i
        have b2 := bound (x j) (g i) P B px (hgG.2.2 i)
        have b3 : (x i).natAbs ≤ (g j * x i).natAbs := by
          rw [Int.natAbs_mul]
          exact Nat.le_mul_of_pos_left _ (Int.natAbs_pos.mpr gj)
        have yi' : (g j * x i - x j * g i).natAbs ≤ Wb n (2 * (B * B)) (2 * (B * P)) := yi
        show (x i).natAbs ≤ Wb n (2 * (B * B)) (2 * (B * P)) + P * B
        omega
/-- the first part of a step is small -/
theorem pivot_small {G made : List Vc} {m n B : Nat} (hl : G.length ≤ n) (hG : ∀ g ∈ G, (∀ i, m ≤ i → g i = 0) ∧ ∀ i, (g i).natAbs ≤ B) (em : Ech 0 made) (h1 : ∀ s ∈ made, Lat G s) (h2 : ∀ g ∈ G, Lat made g)
    {s : Vc} {q : Nat} (hs : s ∈ made) (f : Fp s q) : (s q).natAbs ≤ Fb n B := by
  obtain ⟨E, e1, e2, e3, _⟩ := small m 0 n B G hl fun g hg => ⟨fun i hi => absurd hi (Nat.not_lt_zero _), fun i hi => (hG g hg).1 i (by omega), (hG g hg).2⟩
  obtain ⟨D, hD, hx⟩ := e3 s (h1 s hs)
  obtain ⟨e, he, fe, _⟩ := e1.fp hx (f.mul hD)
  obtain ⟨t, ht, ft, dv⟩ := em.fp ((e2 e he).1.mono h2) fe
  have := em.one hs ht f ft
  subst this
  refine Nat.le_trans ?_ ((e2 e he).2 q)
  exact Nat.le_of_dvd (Int.natAbs_pos.mpr fe.nz) (Int.natAbs_dvd_natAbs.mpr dv)
/-- all of a row is small whose parts where steps begin are -/
theorem part_small {G made : List Vc} {m n B P : Nat} (hl : G.length ≤ n) (hG : ∀ g ∈ G, (∀ i, m ≤ i → g i = 0) ∧ ∀ i, (g i).natAbs ≤ B) (em : Ech 0 made) (h2 : ∀ g ∈ G, Lat made g)
    {x : Vc} (hx : Lat G x) (hP : ∀ s ∈ made, ∀ q, Fp s q → (x q).natAbs ≤ P) (i : Nat) : (x i).natAbs ≤ Wb n B P := by
  obtain ⟨E, e1, e2, _, e4⟩ := small m 0 n B G hl fun g hg => ⟨fun i hi => absurd hi (Nat.not_lt_zero _), fun i hi => (hG g hg).1 i (by omega), (hG g hg).2⟩
  refine e4 x P ⟨1, by decide, ?_⟩ (fun q ⟨e, he, f⟩ => ?_) i
  · have e : (fun i => 1 * x i) = x := funext fun i => by simp
    rw [e]; exact hx
  · obtain ⟨t, ht, ft, _⟩ := em.fp ((e2 e he).1.mono h2) f
    exact hP t ht q ft
end El
/-! The two rows of a step and a rest, joined by Euclid. -/
namespace El
theorem fd {a b : Int} (hb : b ≠ 0) : ∃ m, a = b * a.fdiv b + m ∧ ((0 < b ∧ 0 ≤ m ∧ m < b) ∨ (b < 0 ∧ b < m ∧ m ≤ 0)) := by
  refine ⟨a - b * a.fdiv b, by omega, ?_⟩
  rcases Int.lt_trichotomy b 0 with h | h | h
  · have e : a.fdiv b = (-a).fdiv (-b) := (Int.neg_fdiv_neg a b).symm
    rw [e, Int.fdiv_eq_ediv_of_nonneg _ (by omega)]
    have h1 := Int.mul_ediv_add_emod (-a) (-b)
    have h2 := Int.emod_nonneg (-a) (by omega : -b ≠ 0)
    have h3 := Int.emod_lt_of_pos (-a) (by omega : 0 < -b)
    rw [Int.neg_mul] at h1
    exact .inr ⟨h, by omega, by omega⟩
  · exact absurd h hb
  · rw [Int.fdiv_eq_ediv_of_nonneg _ (by omega)]
    have h1 := Int.mul_ediv_add_emod a b
    have h2 := Int.emod_nonneg a hb
    have h3 := Int.emod_lt_of_pos a h
    exact .inl ⟨h, by omega, by omega⟩
/-- a quotient that needs no great division -/
def Dv (P : Nat) (a b : Int) : Prop := b.natAbs ≤ P ∨ (((0 ≤ a ∧ 0 ≤ b) ∨ (a ≤ 0 ∧ b ≤ 0)) ∧ (a - b).natAbs ≤ P ∧ b.natAbs ≤ a.natAbs) ∨ a.natAbs ≤ P
theorem Dv.next {P : Nat} {a b q m : Int} (h : Dv P a b) (hb : b ≠ 0) (e : a = b * q + m) (hm : (0 < b ∧ 0 ≤ m ∧ m < b) ∨ (b < 0 ∧ b < m ∧ m ≤ 0)) : Dv P b m := by
  have ml : m.natAbs < b.natAbs := by omega
  rcases h with h | ⟨hs, h1, h2⟩ | h
  · exact .inl (by omega)
  · refine .inl ?_
    by_cases hq : b.natAbs ≤ P
    · omega
    · -- one is taken off
      have q1 : q = 1 := by
        have hq0 : ¬ q ≤ 0 := fun l => by
          rcases hm with ⟨b0, m0, m1⟩ | ⟨b0, m0, m1⟩
          · have : b * q ≤ 0 := Int.mul_nonpos_of_nonneg_of_nonpos (by omega) l
            omega
          · have : 0 ≤ b * q := Int.mul_nonneg_of_nonpos_of_nonpos (by omega) l
            omega
        have hq2 : ¬ 2 ≤ q := fun l => by
          rcases hm with ⟨b0, m0, m1⟩ | ⟨b0, m0, m1⟩
          · have : b * 2 ≤ b * q := Int.mul_le_mul_of_nonneg_left l (by omega)
            omega
          · have : b * q ≤ b * 2 := Int.mul_le_mul_of_nonpos_left (by omega) l
            omega
        omega
      subst q1
      omega
  · by_cases hq : b.natAbs ≤ P
    · exact .inl (by omega)
    · by_cases hs : (0 ≤ a ∧ 0 ≤ b) ∨ (a ≤ 0 ∧ b ≤ 0)
      · have q0 : q = 0 := by
          have hq0 : ¬ q ≤ -1 := fun l => by
            rcases hm with ⟨b0, m0, m1⟩ | ⟨b0, m0, m1⟩
            · have : b * q ≤ b * (-1) := Int.mul_le_mul_of_nonneg_left l (by omega)
              omega
            · have : b * (-1) ≤ b * q := Int.mul_le_mul_of_nonpos_left (by omega) l
              omega
          have hq2 : ¬ 1 ≤ q := fun l => by
            rcases hm with ⟨b0, m0, m1⟩ | ⟨b0, m0, m1⟩
            · have : b * 1 ≤ b * q := Int.mul_le_mul_of_nonneg_left l (by omega)
              omega
            · have : b * q ≤ b * 1 := Int.mul_le_mul_of_nonpos_left (by omega) l
              omega
          omega
        subst q0
        exact .inl (by omega)
      · have q0 : q = -1 := by
          have hq0 : ¬ q ≤ -2 := fun l => by
            rcases hm with ⟨b0, m0, m1⟩ | ⟨b0, m0, m1⟩
            · have : b * q ≤ b * (-2) := Int.mul_le_mul_of_nonneg_left l (by omega)
              omega
            · have : b * (-2) ≤ b * q := Int.mul_le_mul_of_nonpos_left (by omega) l
              omega
          have hq2 : ¬ 0 ≤ q := fun l => by
            rcases hm with ⟨b0, m0, m1⟩ | ⟨b0, m0, m1⟩
            · have : b * 0 ≤ b * q := Int.mul_le_mul_of_nonneg_left l (by omega)
              omega
            · have : b * q ≤ b * 0 := Int.mul_le_mul_of_nonpos_left (by omega) l
              omega
          omega
        subst q0
        refine .inr (.inl ⟨?_, ?_, ?_⟩) <;> omega
/-- how the rows have become others -/
structure Mix (s0 r0 s r : Vc) (u v u' v' : Int) : Prop where
  s : ∀ i, s i = u * s0 i + v * r0 i
  r : ∀ i, r i = u' * s0 i + v' * r0 i
/-- between the turns -/
structure Eu (P : Nat) (p : Nat) (s0 r0 s r : Vc) : Prop where
  mix : ∃ u v u' v', Mix s0 r0 s r u v u' v' ∧ ((u = 1 ∧ v = 0 ∧ u' = 0 ∧ v' = 1) ∨
    (r0 p ≠ 0 ∧ s p ≠ 0 ∧ ((0 ≤ s p ∧ 0 ≤ r p) ∨ (s p ≤ 0 ∧ r p ≤ 0)) ∧ (s p).natAbs ≤ (r0 p).natAbs ∧ (r p).natAbs ≤ (r0 p).natAbs ∧ u.natAbs ≤ (r0 p).natAbs ∧ u.natAbs * (r p).natAbs + u'.natAbs * (s p).natAbs ≤ (r0 p).natAbs))
  l1 : Lat [s, r] s0
  l2 : Lat [s, r] r0
  l3 : Lat [s0, r0] s
  l4 : Lat [s0, r0] r
  dv : Dv P (s p) (r p)
theorem Eu.start {P p : Nat} {s0 r0 : Vc} (h : (s0 p).natAbs ≤ P) : Eu P p s0 r0 s0 r0 :=
  ⟨⟨1, 0, 0, 1, ⟨fun i => by omega, fun i => by omega⟩, .inl ⟨rfl, rfl, rfl, rfl⟩⟩, .of List.mem_cons_self, .of (List.mem_cons_of_mem _ List.mem_cons_self), .of List.mem_cons_self, .of (List.mem_cons_of_mem _ List.mem_cons_self), .inr (.inr h)⟩
theorem Eu.next {P p : Nat} {s0 r0 s r r' : Vc} (E : Eu P p s0 r0 s r) (hb : r p ≠ 0) (e : ∀ i, r' i = s i - r i * (s p).fdiv (r p)) : Eu P p s0 r0 r r' := by
  obtain ⟨⟨u, v, u', v', M, hc⟩, l1, l2, l3, l4, dv⟩ := E
  obtain ⟨m, em, hm⟩ := fd (a := s p) hb
  generalize hq : (s p).fdiv (r p) = q at e em
  have er : r' p = m := by have := e p; omega
  have fr : r' = fun i => s i - r i * q := funext e
  have fs : s = fun i => r' i + q * r i := funext fun i => by have := e i; rw [Int.mul_comm q]; omega
  have inS : Lat [r, r'] s := by
    rw [fs]
    exact Lat.add q (Lat.of (List.mem_cons_of_mem _ List.mem_cons_self)) List.mem_cons_self
  have up : ∀ g ∈ [s, r], Lat [r, r'] g := fun g hg => by
    rcases List.mem_cons.mp hg with z | z
    · rw [z]; exact inS
    · rw [List.mem_singleton.mp z]; exact .of List.mem_cons_self
  refine ⟨⟨u', v', u - q * u', v - q * v', ⟨M.r, fun i => ?_⟩, .inr ?_⟩, l1.mono up, l2.mono up, l4, ?_, ?_⟩
  · rw [e i, M.s i, M.r i, Int.sub_mul, Int.sub_mul, Int.add_mul, Int.mul_right_comm u' (s0 i) q, Int.mul_right_comm v' (r0 i) q, Int.mul_comm u' q, Int.mul_comm v' q]
    omega
  · rw [er]
    rcases hc with ⟨rfl, rfl, rfl, rfl⟩ | ⟨h0, h1, h2, h3, h4, h5, h6⟩
    · have e0 : r p = r0 p := by have := M.r p; omega
      rw [e0] at hb hm ⊢
      refine ⟨hb, hb, by omega, Nat.le_refl _, by omega, by omega, ?_⟩
      simp
    · refine ⟨h0, hb, by omega, h4, by omega, ?_, ?_⟩
      · have : u'.natAbs * 1 ≤ u'.natAbs * (s p).natAbs := Nat.mul_le_mul_left _ (by omega)
        omega
      · -- the potential does not grow
        have hs : q.natAbs * (r p).natAbs + m.natAbs = (s p).natAbs := by
          have hq0 : 0 ≤ q := by
            rcases Int.lt_or_le q 0 with l | l
            · exfalso
              rcases hm with ⟨b0, m0, m1⟩ | ⟨b0, m0, m1⟩
              · have : r p * q ≤ r p * (-1) := Int.mul_le_mul_of_nonneg_left (by omega) (by omega)
                omega
              · have : r p * (-1) ≤ r p * q := Int.mul_le_mul_of_nonpos_left (by omega) (by omega)
                omega
            · exact l
          have hn : q.natAbs * (r p).natAbs = (r p * q).natAbs := by rw [Int.natAbs_mul, Nat.mul_comm]
          rw [hn]
          rcases hm with ⟨b0, m0, m1⟩ | ⟨b0, m0, m1⟩
          · have : 0 ≤ r p * q := Int.mul_nonneg (by omega) hq0
            omega
          · have : r p * q ≤ 0 := Int.mul_nonpos_of_nonpos_of_nonneg (by omega) hq0
            omega
        have t1 : (u - q * u').natAbs ≤ u.natAbs + q.natAbs * u'.natAbs := by
          have := Int.natAbs_sub_le u (q * u')
          rwa [Int.natAbs_mul] at this
        have t2 : (u - q * u').natAbs * (r p).natAbs ≤ (u.natAbs + q.natAbs * u'.natAbs) * (r p).natAbs := Nat.mul_le_mul_right _ t1
        have t3 : (u.natAbs + q.natAbs * u'.natAbs) * (r p).natAbs = u.natAbs * (r p).natAbs + u'.natAbs * (q.natAbs * (r p).natAbs) := by
          rw [Nat.add_mul, Nat.mul_comm q.natAbs, Nat.mul_assoc]
        have t4 : u'.natAbs * m.natAbs + u'.natAbs * (q.natAbs * (r p).natAbs) = u'.natAbs * (s p).natAbs := by rw [← Nat.mul_add, ← hs, Nat.add_comm]
        omega
  · rw [fr]
    exact l3.sub q l4
  · rw [er]
    exact dv.next hb em hm
/-- all that comes up is small -/
theorem Eu.bound {P p S R : Nat} {s0 r0 s r : Vc} (E : Eu P p s0 r0 s r) (hs : ∀ i, (s0 i).natAbs ≤ S) (hr : ∀ i, (r0 i).natAbs ≤ R) : ∀ i, (s i).natAbs ≤ S + R + R * S + (s0 p).natAbs * R ∧ (r i).natAbs ≤ S + R + R * S + (s0 p).natAbs * R := by
  intro i
  obtain ⟨⟨u, v, u', v', M, hc⟩, _⟩ := E
  have key : ∀ c d x : Int, x.natAbs ≤ (r0 p).natAbs → x = c * s0 p + d * r0 p → c.natAbs ≤ (r0 p).natAbs → r0 p ≠ 0 → (c * s0 i + d * r0 i).natAbs ≤ S + R + R * S + (s0 p).natAbs * R := by
    intro c d x hx e hcc h0
    have hd : d.natAbs ≤ 1 + (s0 p).natAbs := by
      have q1 : (d * r0 p).natAbs ≤ x.natAbs + (c * s0 p).natAbs := by omega
      rw [Int.natAbs_mul, Int.natAbs_mul] at q1
      have q2 : c.natAbs * (s0 p).natAbs ≤ (r0 p).natAbs * (s0 p).natAbs := Nat.mul_le_mul_right _ hcc
      have q3 : d.natAbs * (r0 p).natAbs ≤ (1 + (s0 p).natAbs) * (r0 p).natAbs := by
        rw [Nat.add_mul, Nat.one_mul, Nat.mul_comm (s0 p).natAbs]
        omega
      exact Nat.le_of_mul_le_mul_right q3 (Int.natAbs_pos.mpr h0)
    have q1 : (c * s0 i + d * r0 i).natAbs ≤ (c * s0 i).natAbs + (d * r0 i).natAbs := Int.natAbs_add_le _ _
    rw [Int.natAbs_mul, Int.natAbs_mul] at q1
    have q2 : c.natAbs * (s0 i).natAbs ≤ R * S := Nat.mul_le_mul (Nat.le_trans hcc (hr p)) (hs i)
    have q3 : d.natAbs * (r0 i).natAbs ≤ (1 + (s0 p).natAbs) * R := Nat.mul_le_mul hd (hr i)
    rw [Nat.add_mul, Nat.one_mul] at q3
    omega
  rcases hc with ⟨rfl, rfl, rfl, rfl⟩ | ⟨h0, h1, h2, h3, h4, h5, h6⟩
  · have e1 := M.s i
    have e2 := M.r i
    have b1 := hs i
    have b2 := hr i
    constructor <;> omega
  · rw [M.s i, M.r i]
    have hu' : u'.natAbs ≤ (r0 p).natAbs := by
      have : u'.natAbs * 1 ≤ u'.natAbs * (s p).natAbs := Nat.mul_le_mul_left _ (by omega)
      omega
    exact ⟨key u v (s p) h3 (M.s p) h5 h0, key u' v' (r p) h4 (M.r p) hu' h0⟩
end El
/-! Rows as lists. -/
namespace El
def co (is : List Int) : Vc := fun i => is.getD i 0
theorem co_out {is : List Int} {i : Nat} (h : is.length ≤ i) : co is i = 0 := by
  unfold co
  rw [List.getD_eq_getElem?_getD, List.getElem?_eq_none h]; rfl
theorem co_at {is : List Int} {i : Nat} (h : i < is.length) : co is i = is[i] := by
  unfold co
  rw [List.getD_eq_getElem?_getD, List.getElem?_eq_getElem h]; rfl
theorem co_mem {is : List Int} {i : Nat} (h : i < is.length) : co is i ∈ is := by rw [co_at h]; exact List.getElem_mem h
def takenL (xs ys : List Int) : List Int := List.zipWith (· - ·) xs ys
def timesL (xs : List Int) (k : Int) : List Int := xs.map (· * k)
theorem co_taken {xs ys : List Int} (h : xs.length = ys.length) (i : Nat) : co (takenL xs ys) i = co xs i - co ys i := by
  by_cases hi : i < xs.length
  · rw [co_at (by unfold takenL; rw [List.length_zipWith]; omega), co_at hi, co_at (h ▸ hi)]
    unfold takenL
    rw [List.getElem_zipWith]
  · rw [co_out (by unfold takenL; rw [List.length_zipWith]; omega), co_out (by omega), co_out (by omega)]; rfl
theorem co_times (xs : List Int) (k : Int) (i : Nat) : co (timesL xs k) i = co xs i * k := by
  by_cases hi : i < xs.length
  · rw [co_at (by unfold timesL; rw [List.length_map]; exact hi), co_at hi]
    unfold timesL
    rw [List.getElem_map]
  · rw [co_out (by unfold timesL; rw [List.length_map]; omega), co_out (by omega), Int.zero_mul]
theorem taken_len {xs ys : List Int} (h : xs.length = ys.length) : (takenL xs ys).length = xs.length := by unfold takenL; rw [List.length_zipWith]; omega
theorem times_len (xs : List Int) (k : Int) : (timesL xs k).length = xs.length := by unfold timesL; rw [List.length_map]
/-- all parts below 2 ^ e -/
def Sm (e : Nat) (xs : List Int) : Prop := ∀ i, (co xs i).natAbs < 2 ^ e
theorem Sm.up {e f : Nat} {xs : List Int} (h : Sm e xs) (l : e ≤ f) : Sm f xs := fun i => Nat.lt_of_lt_of_le (h i) (Nat.pow_le_pow_right (by decide) l)
theorem Sm.mem {e : Nat} {xs : List Int} (h : Sm e xs) {x : Int} (hx : x ∈ xs) : x.natAbs < 2 ^ e := by
  obtain ⟨i, hi, rfl⟩ := List.mem_iff_getElem.mp hx
  rw [← co_at hi]; exact h i
theorem Sm.of {e : Nat} {xs : List Int} (h : ∀ x ∈ xs, x.natAbs < 2 ^ e) : Sm e xs := fun i => by
  by_cases hi : i < xs.length
  · exact h _ (co_mem hi)
  · rw [co_out (by omega)]; exact Nat.pow_pos (by decide)
/-- the place of the first part that isn't nought -/
def fpL : List Int → Nat
  | [] => 0
  | x :: xs => if x = 0 then fpL xs + 1 else 0
theorem fpL_le : ∀ xs : List Int, fpL xs ≤ xs.length
  | [] => Nat.le_refl _
  | x :: xs => by
    have := fpL_le xs
    unfold fpL
    split <;> (rw [List.length_cons]; omega)
theorem fpL_zero : ∀ (xs : List Int) (i : Nat), i < fpL xs → co xs i = 0
  | [], i, h => absurd h (Nat.not_lt_zero _)
  | x :: xs, i, h => by
    unfold fpL at h
    split at h
    · rename_i hx
      cases i with
      | zero => exact hx
      | succ i => exact fpL_zero xs i (by omega)
    · exact absurd h (Nat.not_lt_zero _)
theorem fpL_nz : ∀ (xs : List Int), fpL xs < xs.length → co xs (fpL xs) ≠ 0
  | [], h => absurd h (Nat.not_lt_zero _)
  | x :: xs, h => by
    unfold fpL at h ⊢
    split
    · rename_i hx
      rw [if_pos hx, List.length_cons] at h
      exact fpL_nz xs (by omega)
    · rename_i hx
      exact hx
theorem fpL_fp {xs : List Int} (h : fpL xs < xs.length) : Fp (co xs) (fpL xs) := ⟨fpL_nz xs h, fpL_zero xs⟩
theorem fpL_of {xs : List Int} {q : Nat} (f : Fp (co xs) q) : fpL xs = q ∧ q < xs.length := by
  have hq : q < xs.length := by
    rcases Nat.lt_or_ge q xs.length with h | h
    · exact h
    · exact absurd (co_out h) f.nz
  have h1 : ¬ q < fpL xs := fun l => f.nz (fpL_zero xs q l)
  have h2 : fpL xs < xs.length := by omega
  exact ⟨(fpL_fp h2).uniq f, hq⟩
theorem fpL_all {xs : List Int} (h : ¬ fpL xs < xs.length) : ∀ i, co xs i = 0 := fun i => by
  have := fpL_le xs
  by_cases hi : i < xs.length
  · exact fpL_zero xs i (by omega)
  · exact co_out (by omega)
theorem co_ext {xs ys : List Int} (h : xs.length = ys.length) (e : co xs = co ys) : xs = ys := by
  refine List.ext_getElem h fun i h1 h2 => ?_
  rw [← co_at h1, ← co_at h2, e]
def lessL (xs ys : List Int) (p : Nat) : List Int := takenL xs (timesL ys ((co xs p).fdiv (co ys p)))
theorem less_len {xs ys : List Int} (h : xs.length = ys.length) (p : Nat) : (lessL xs ys p).length = xs.length := by
  unfold lessL
  rw [taken_len (by rw [times_len]; exact h)]
theorem co_less {xs ys : List Int} (h : xs.length = ys.length) (p i : Nat) : co (lessL xs ys p) i = co xs i - co ys i * (co xs p).fdiv (co ys p) := by
  unfold lessL
  rw [co_taken (by rw [times_len]; exact h), co_times]
theorem less_none {xs ys : List Int} {p : Nat} (h : xs.length = ys.length) (hz : (co xs p).fdiv (co ys p) = 0) : lessL xs ys p = xs := by
  refine co_ext (less_len h p) (funext fun i => ?_)
  rw [co_less h, hz]; simp
/-- the quotient by one that is at least 1 -/
theorem fdiv_le {a b : Int} (hb : 0 < b) : (a.fdiv b).natAbs ≤ a.natAbs := by
  rw [Int.fdiv_eq_ediv_of_nonneg _ (by omega)]
  have h1 := Int.mul_ediv_add_emod a b
  have h2 := Int.emod_nonneg a (by omega : b ≠ 0)
  have h3 := Int.emod_lt_of_pos a hb
  rcases Int.lt_or_le a 0 with ha | ha
  · have : a / b < 0 := Int.ediv_neg_of_neg_of_pos ha hb
    have q : a * b ≤ a * 1 := Int.mul_le_mul_of_nonpos_left (by omega) (by omega)
    have := Int.le_ediv_of_mul_le hb (by omega : a * b ≤ a)
    omega
  · have : 0 ≤ a / b := Int.ediv_nonneg ha (by omega)
    have q : 1 * (a / b) ≤ b * (a / b) := Int.mul_le_mul_of_nonneg_right (by omega) this
    omega
end El
/-! Steps brought low. -/
namespace El
theorem Ech.snoc : ∀ {n : Nat} {xs : List Vc} {y : Vc} {q : Nat}, Ech n xs → (∀ x ∈ xs, ∃ p, Fp x p ∧ p < q) → Fp y q → n ≤ q → Ech n (xs ++ [y])
  | _, _, _, _, .nil, _, f, h => .cons f h .nil
  | _, _, _, _, .cons (s := s) f0 l e, hx, f, h => by
    obtain ⟨p, fp, hp⟩ := hx s List.mem_cons_self
    have := f0.uniq fp
    subst this
    exact .cons f0 l (Ech.snoc e (fun x hx' => hx x (List.mem_cons_of_mem _ hx')) f hp)
theorem Ech.has : ∀ {n : Nat} {xs : List Vc}, Ech n xs → ∀ x ∈ xs, ∃ p, Fp x p ∧ n ≤ p
  | _, _, .nil, _, h => nomatch h
  | _, _, .cons f0 l e, x, h => by
    rcases List.mem_cons.mp h with rfl | h
    · exact ⟨_, f0, l⟩
    · obtain ⟨p, h1, h2⟩ := Ech.has e x h
      exact ⟨p, h1, by omega⟩
theorem Ech.before : ∀ {n : Nat} {xs zs : List Vc} {y : Vc} {q : Nat}, Ech n (xs ++ y :: zs) → Fp y q → ∀ x ∈ xs, ∃ p, Fp x p ∧ p < q
  | _, [], _, _, _, _, _, _, h => nomatch h
  | n, x0 :: xs, zs, y, q, h, f, x, hx => by
    cases h with
    | cons f0 l e =>
      rcases List.mem_cons.mp hx with rfl | hx
      · obtain ⟨p, h1, h2⟩ := e.has y (List.mem_append_right _ List.mem_cons_self)
        have := h1.uniq f
        subst this
        exact ⟨_, f0, by omega⟩
      · exact Ech.before e f x hx
structure Low (m : Nat) (ss ms : List (List Int)) : Prop where
  len : ∀ x ∈ ms, x.length = m
  cnt : ms.length = ss.length
  ech : Ech 0 (ms.map co)
  l1 : ∀ x ∈ ms, Lat (ss.map co) (co x)
  l2 : ∀ x ∈ ss, Lat (ms.map co) (co x)
  pos : ∀ x ∈ ms, ∀ q, Fp (co x) q → 0 < co x q
  red : ms.Pairwise fun x y => ∀ q, Fp (co y) q → 0 ≤ co x q ∧ co x q < co y q
  pl : ∀ x ∈ ms, ∀ p, Fp (co x) p → ∃ s ∈ ss, Fp (co s) p
theorem Low.nil (m : Nat) : Low m [] [] := ⟨fun _ h => absurd h List.not_mem_nil, rfl, .nil, fun _ h => absurd h List.not_mem_nil, fun _ h => absurd h List.not_mem_nil, fun _ h => absurd h List.not_mem_nil, .nil, fun _ h => absurd h List.not_mem_nil⟩
def stepL (r : List Int) (q : Nat) : List Int := if co r q > 0 then r else timesL r (-1)
structure IsStep (r s : List Int) (q : Nat) : Prop where
  len : s.length = r.length
  fp : Fp (co s) q
  pos : 0 < co s q
  l1 : Lat [co r] (co s)
  l2 : Lat [co s] (co r)
  abs : ∀ i, (co s i).natAbs = (co r i).natAbs
theorem step_is {r : List Int} {q : Nat} (f : Fp (co r) q) : IsStep r (stepL r q) q := by
  unfold stepL
  split
  · rename_i h
    exact ⟨rfl, f, h, .of List.mem_cons_self, .of List.mem_cons_self, fun i => rfl⟩
  · rename_i h
    have e : ∀ i, co (timesL r (-1)) i = - co r i := fun i => by rw [co_times]; omega
    refine ⟨times_len _ _, ⟨by rw [e]; have := f.nz; omega, fun i hi => by rw [e, f.zs i hi]; rfl⟩, by rw [e]; have := f.nz; omega, ?_, ?_, fun i => by rw [e]; omega⟩
    · have z := Lat.mul (-1) (Lat.of (List.mem_cons_self (a := co r) (l := [])))
      have e2 : (fun i => -1 * co r i) = co (timesL r (-1)) := funext fun i => by rw [e]; omega
      rwa [e2] at z
    · have z := Lat.mul (-1) (Lat.of (List.mem_cons_self (a := co (timesL r (-1))) (l := [])))
      have e2 : (fun i => -1 * co (timesL r (-1)) i) = co r := funext fun i => by rw [e]; omega
      rwa [e2] at z
theorem Low.snoc {m : Nat} {ss ms : List (List Int)} {r s : List Int} {q : Nat} (L : Low m ss ms) (hr : r.length = m) (I : IsStep r s q) (f : Fp (co r) q) (hp : ∀ s ∈ ss, ∃ p, Fp (co s) p ∧ p < q) :
    Low m (ss ++ [r]) (ms.map (fun x => lessL x s q) ++ [s]) := by
  have ls : s.length = m := I.len.trans hr
  have before : ∀ x ∈ ms, ∀ i < q, co (lessL x s q) i = co x i := fun x hx i hi => by
    rw [co_less ((L.len x hx).trans ls.symm), I.fp.zs i hi]; simp
  have place : ∀ x ∈ ms, ∃ p, Fp (co x) p ∧ p < q := fun x hx => by
    obtain ⟨p, h1, _⟩ := L.ech.has (co x) (List.mem_map_of_mem hx)
    obtain ⟨t, ht, h2⟩ := L.pl x hx p h1
    obtain ⟨p', h3, h4⟩ := hp t ht
    have := h2.uniq h3
    subst this
    exact ⟨p, h1, h4⟩
  have keep : ∀ x ∈ ms, ∀ p, Fp (co x) p → Fp (co (lessL x s q)) p ∧ p < q := fun x hx p fx => by
    obtain ⟨p', h3, h4⟩ := place x hx
    have := fx.uniq h3
    subst this
    exact ⟨⟨by rw [before x hx p h4]; exact fx.nz, fun i hi => by rw [before x hx i (by omega)]; exact fx.zs i hi⟩, h4⟩
  have back : ∀ x ∈ ms, ∀ p, Fp (co (lessL x s q)) p → Fp (co x) p ∧ p < q := fun x hx p fx => by
    obtain ⟨p', h3, h4⟩ := place x hx
    obtain ⟨h5, _⟩ := keep x hx p' h3
    have := fx.uniq h5
    subst this
    exact ⟨h3, h4⟩
  refine ⟨?_, ?_, ?_, ?_, ?_, ?_, ?_, ?_⟩
  · intro y hy
    rcases List.mem_append.mp hy with h | h
    · obtain ⟨x, hx, rfl⟩ := List.mem_map.mp h
      rw [less_len ((L.len x hx).trans ls.symm)]; exact L.len x hx
    · rw [List.mem_singleton.mp h]; exact ls
  · rw [List.length_append, List.length_append, List.length_map, L.cnt]; rfl
  · rw [List.map_append, List.map_map]
    have e : Ech 0 (ms.map (co ∘ fun x => lessL x s q)) := by
      have aux : ∀ (n : Nat) (l : List (List Int)), Ech n (l.map co) → (∀ x ∈ l, x ∈ ms) → Ech n (l.map (co ∘ fun x => lessL x s q)) := by
        intro n l
        induction l generalizing n with
        | nil => intro _ _; exact .nil
        | cons x l ih =>
          intro h hm
          cases h with
          | cons f0 l0 e0 => exact .cons (keep x (hm x List.mem_cons_self) _ f0).1 l0 (ih _ e0 fun y hy => hm y (List.mem_cons_of_mem _ hy))
      exact aux 0 ms L.ech fun _ h => h
    refine e.snoc (fun x hx => ?_) I.fp (Nat.zero_le _)
    obtain ⟨y, hy, rfl⟩ := List.mem_map.mp hx
    obtain ⟨p, h1, _⟩ := place y hy
    exact ⟨p, (keep y hy p h1).1, (keep y hy p h1).2⟩
  · intro y hy
    have up : ∀ {x : Vc}, Lat (ss.map co) x → Lat ((ss ++ [r]).map co) x := fun h => h.sub_of fun g hg => by rw [List.map_append]; exact List.mem_append_left _ hg
    have us : Lat ((ss ++ [r]).map co) (co s) := I.l1.sub_of fun g hg => by rw [List.map_append]; exact List.mem_append_right _ hg
    rcases List.mem_append.mp hy with h | h
    · obtain ⟨x, hx, rfl⟩ := List.mem_map.mp h
      have z := (up (L.l1 x hx)).sub ((co x q).fdiv (co s q)) us
      have e : (fun i => co x i - co s i * (co x q).fdiv (co s q)) = co (lessL x s q) := funext fun i => (co_less ((L.len x hx).trans ls.symm) q i).symm
      rwa [e] at z
    · rw [List.mem_singleton.mp h]; exact us
  · intro y hy
    have us : Lat ((ms.map (fun x => lessL x s q) ++ [s]).map co) (co s) := .of (by rw [List.map_append]; exact List.mem_append_right _ List.mem_cons_self)
    have um : ∀ x ∈ ms, Lat ((ms.map (fun x => lessL x s q) ++ [s]).map co) (co x) := fun x hx => by
      have z : Lat ((ms.map (fun x => lessL x s q) ++ [s]).map co) (co (lessL x s q)) := .of (by rw [List.map_append]; exact List.mem_append_left _ (List.mem_map_of_mem (List.mem_map_of_mem hx)))
      have z2 := z.sub (-((co x q).fdiv (co s q))) us
      have e : (fun i => co (lessL x s q) i - co s i * (-((co x q).fdiv (co s q)))) = co x := funext fun i => by rw [co_less ((L.len x hx).trans ls.symm) q i, Int.mul_neg]; omega
      rwa [e] at z2
    rcases List.mem_append.mp hy with h | h
    · exact (L.l2 y h).mono fun g hg => by
        obtain ⟨x, hx, rfl⟩ := List.mem_map.mp hg
        exact um x hx
    · rw [List.mem_singleton.mp h]
      exact I.l2.mono fun g hg => by rw [List.mem_singleton.mp hg]; exact us
  · intro y hy p fy
    rcases List.mem_append.mp hy with h | h
    · obtain ⟨x, hx, rfl⟩ := List.mem_map.mp h
      obtain ⟨h1, h2⟩ := back x hx p fy
      rw [before x hx p h2]
      exact L.pos x hx p h1
    · rw [List.mem_singleton.mp h] at fy ⊢
      have := fy.uniq I.fp
      subst this
      exact I.pos
  · refine List.pairwise_append.mpr ⟨?_, List.pairwise_singleton _ _, fun y hy z hz => ?_⟩
    · refine List.pairwise_map.mpr (L.red.imp_of_mem fun {x y} hx hy h p fy => ?_)
      obtain ⟨h1, h2⟩ := back y hy p fy
      rw [before x hx p h2, before y hy p h2]
      exact h p h1
    · rw [List.mem_singleton.mp hz]
      intro p fs
      have := fs.uniq I.fp
      subst this
      obtain ⟨x, hx, rfl⟩ := List.mem_map.mp hy
      rw [co_less ((L.len x hx).trans ls.symm)]
      obtain ⟨k, e1, e2⟩ := fd (a := co x p) (b := co s p) (by have := I.pos; omega)
      have := I.pos
      omega
  · intro y hy p fy
    rcases List.mem_append.mp hy with h | h
    · obtain ⟨x, hx, rfl⟩ := List.mem_map.mp h
      obtain ⟨h1, _⟩ := back x hx p fy
      obtain ⟨t, ht, h2⟩ := L.pl x hx p h1
      exact ⟨t, List.mem_append_left _ ht, h2⟩
    · rw [List.mem_singleton.mp h] at fy
      have := fy.uniq I.fp
      subst this
      exact ⟨r, List.mem_append_right _ List.mem_cons_self, f⟩
theorem less_sm {a e : Nat} {x s : List Int} {q : Nat} (hl : x.length = s.length) (hx : Sm a x) (hs : Sm e s) (hp : 0 < co s q) : Sm (a + e + 1) (lessL x s q) := fun i => by
  rw [co_less hl]
  have h1 := Int.natAbs_sub_le (co x i) (co s i * (co x q).fdiv (co s q))
  rw [Int.natAbs_mul] at h1
  have h2 : (co s i).natAbs * ((co x q).fdiv (co s q)).natAbs ≤ 2 ^ e * 2 ^ a := Nat.mul_le_mul (Nat.le_of_lt (hs i)) (Nat.le_of_lt (Nat.lt_of_le_of_lt (fdiv_le hp) (hx q)))
  have h3 := hx i
  have h4 : 2 ^ a ≤ 2 ^ (a + e) := Nat.pow_le_pow_right (by decide) (by omega)
  have h5 : 2 ^ e * 2 ^ a = 2 ^ (a + e) := by rw [← Nat.pow_add, Nat.add_comm]
  have h6 : 2 ^ (a + e + 1) = 2 ^ (a + e) + 2 ^ (a + e) := by rw [Nat.pow_succ]; omega
  omega
end El
/-! A row put to steps. -/
namespace El
/-- the steps of G -/
structure Hnf (m : Nat) (G ms : List (List Int)) : Prop where
  len : ∀ x ∈ ms, x.length = m
  cnt : ms.length ≤ G.length
  ech : Ech 0 (ms.map co)
  l1 : ∀ x ∈ ms, Lat (G.map co) (co x)
  l2 : ∀ x ∈ G, Lat (ms.map co) (co x)
  pos : ∀ x ∈ ms, ∀ q, Fp (co x) q → 0 < co x q
  red : ms.Pairwise fun x y => ∀ q, Fp (co y) q → 0 ≤ co x q ∧ co x q < co y q
/-- few small rows -/
structure Few (m : Nat) (G : List (List Int)) : Prop where
  cnt : G.length ≤ 8
  len : ∀ g ∈ G, g.length = m
  sm : ∀ g ∈ G, ∀ i, (co g i).natAbs ≤ 30
theorem Few.gens {m : Nat} {G : List (List Int)} (F : Few m G) : ∀ g ∈ G.map co, (∀ i, m ≤ i → g i = 0) ∧ ∀ i, (g i).natAbs ≤ 30 := fun g hg => by
  obtain ⟨x, hx, rfl⟩ := List.mem_map.mp hg
  exact ⟨fun i hi => co_out (by rw [F.len x hx]; exact hi), F.sm x hx⟩
theorem wb8 : Wb 8 30 (Fb 8 30) < 2 ^ 3200 := by decide +kernel
theorem pivots {m : Nat} {G ss : List (List Int)} (F : Few m G) (e : Ech 0 (ss.map co)) (l1 : ∀ x ∈ ss, Lat (G.map co) (co x)) (l2 : ∀ x ∈ G, Lat (ss.map co) (co x)) {x : List Int} {q : Nat} (hx : x ∈ ss) (f : Fp (co x) q) : (co x q).natAbs ≤ Fb 8 30 :=
  pivot_small (m := m) (by rw [List.length_map]; exact F.cnt) F.gens e (fun s hs => by obtain ⟨y, hy, rfl⟩ := List.mem_map.mp hs; exact l1 y hy) (fun g hg => by obtain ⟨y, hy, rfl⟩ := List.mem_map.mp hg; exact l2 y hy) (List.mem_map_of_mem hx) f
theorem Hnf.small {m : Nat} {G ms : List (List Int)} (h : Hnf m G ms) (F : Few m G) : ∀ x ∈ ms, Sm 3200 x := fun x hx i => by
  refine Nat.lt_of_le_of_lt (part_small (G := G.map co) (made := ms.map co) (m := m) (n := 8) (B := 30) (P := Fb 8 30) (by rw [List.length_map]; exact F.cnt) F.gens h.ech (fun g hg => by obtain ⟨y, hy, rfl⟩ := List.mem_map.mp hg; exact h.l2 y hy) (h.l1 x hx) (fun s hs q f => ?_) i) wb8
  obtain ⟨y, hy, rfl⟩ := List.mem_map.mp hs
  have py := pivots F h.ech h.l1 h.l2 hy f
  obtain ⟨a, ha, rfl⟩ := List.mem_iff_getElem.mp hx
  obtain ⟨b, hb, rfl⟩ := List.mem_iff_getElem.mp hy
  rcases Nat.lt_trichotomy a b with l | e | l
  · have := List.pairwise_iff_getElem.mp h.red a b ha hb l q f
    omega
  · subst e
    exact py
  · obtain ⟨p, fp, _⟩ := h.ech.has (co ms[a]) (List.mem_map_of_mem (List.getElem_mem ha))
    have ed : ms.map co = (ms.take a).map co ++ co ms[a] :: (ms.drop (a + 1)).map co := by
      rw [← List.map_cons, ← List.drop_eq_getElem_cons ha, ← List.map_append, List.take_append_drop]
    have e2 := h.ech
    rw [ed] at e2
    obtain ⟨p', f', l'⟩ := e2.before fp (co ms[b]) (List.mem_map_of_mem (List.mem_iff_getElem.mpr ⟨b, by rw [List.length_take]; omega, by rw [List.getElem_take]⟩))
    have := f.uniq f'
    subst this
    rw [fp.zs q l']
    exact Nat.zero_le _
/-- while a row is put to steps -/
structure Put (m : Nat) (T : List Vc) (some : List (List Int)) (left : List Int) (post : List (List Int)) (N : Nat) : Prop where
  len : ∀ x ∈ some, x.length = m
  ll : left.length = m
  ech : Ech 0 (some.map co)
  bel : ∀ x ∈ some, ∃ p, Fp (co x) p ∧ p < N
  lz : ∀ i < N, co left i = 0
  pe : Ech N (post.map co)
  l1 : ∀ x ∈ some ++ left :: post, Lat T (co x)
  l2 : ∀ t ∈ T, Lat ((some ++ left :: post).map co) t
theorem Put.next {m P : Nat} {T : List Vc} {some post : List (List Int)} {left step u l : List Int} {N q : Nat} (h : Put m T some left (step :: post) N) (hst : step.length = m) (hu : u.length = m) (hl : l.length = m) (fq : Fp (co step) q) {p : Nat} (hp : p = if fpL left < q then fpL left else q)
    (eu : Eu P p (co step) (co left) (co u) (co l)) (l0 : co l p = 0) : Put m T (some ++ [u]) l post (p + 1) := by
  have pe := h.pe
  rw [List.map_cons] at pe
  obtain ⟨qn, pe2⟩ : N ≤ q ∧ Ech (q + 1) (post.map co) := by
    cases pe with
    | cons f0 l0 e0 =>
      have := f0.uniq fq
      subst this
      exact ⟨l0, e0⟩
  have qm : q < m := by have := (fpL_of fq).2; omega
  have hpq : p ≤ q := by rw [hp]; split <;> omega
  have sz : ∀ i < p, co step i = 0 := fun i hi => fq.zs i (by omega)
  have lz : ∀ i < p, co left i = 0 := fun i hi => fpL_zero left i (by rw [hp] at hi; split at hi <;> omega)
  have lnz : fpL left < q → co left (fpL left) ≠ 0 := fun c => fpL_nz left (by have := h.ll; omega)
  have Np : N ≤ p := by
    by_cases c : fpL left < q
    · rw [if_pos c] at hp
      rcases Nat.lt_or_ge p N with l2 | l2
      · rw [hp] at l2
        exact absurd (h.lz _ l2) (lnz c)
      · exact l2
    · rw [if_neg c] at hp
      omega
  obtain ⟨u1, v1, u2, v2, M, _⟩ := eu.mix
  have uz : ∀ i < p, co u i = 0 := fun i hi => by rw [M.s i, sz i hi, lz i hi]; simp
  have l0' : ∀ i < p + 1, co l i = 0 := fun i hi => by
    rcases Nat.lt_or_eq_of_le (Nat.le_of_lt_succ hi) with z | z
    · rw [M.r i, sz i z, lz i z]; simp
    · rw [z]; exact l0
  have unz : co u p ≠ 0 := fun z => by
    have zz : ∀ g ∈ [co u, co l], g p = 0 := fun g hg => by
      rcases List.mem_cons.mp hg with e | e
      · rw [e]; exact z
      · rw [List.mem_singleton.mp e]; exact l0
    have z1 := eu.l1.zeros zz
    have z2 := eu.l2.zeros zz
    by_cases c : fpL left < q
    · rw [if_pos c] at hp
      rw [hp] at z2
      exact lnz c z2
    · rw [if_neg c] at hp
      rw [hp] at z1
      exact fq.nz z1
  have fu : Fp (co u) p := ⟨unz, uz⟩
  have two : ∀ {G : List Vc}, Lat G (co step) → Lat G (co left) → Lat G (co u) ∧ Lat G (co l) := fun {G} h1 h2 => by
    have up : ∀ g ∈ [co step, co left], Lat G g := fun g hg => by
      rcases List.mem_cons.mp hg with e | e
      · rw [e]; exact h1
      · rw [List.mem_singleton.mp e]; exact h2
    exact ⟨eu.l3.mono up, eu.l4.mono up⟩
  have hs : Lat T (co step) := h.l1 step (List.mem_append_right _ (List.mem_cons_of_mem _ List.mem_cons_self))
  have hle : Lat T (co left) := h.l1 left (List.mem_append_right _ List.mem_cons_self)
  refine ⟨?_, hl, ?_, ?_, l0', pe2.down (by omega), ?_, ?_⟩
  · intro x hx
    rcases List.mem_append.mp hx with z | z
    · exact h.len x z
    · rw [List.mem_singleton.mp z]; exact hu
  · rw [List.map_append]
    refine h.ech.snoc (fun x hx => ?_) fu (Nat.zero_le _)
    obtain ⟨y, hy, rfl⟩ := List.mem_map.mp hx
    obtain ⟨p', f', l'⟩ := h.bel y hy
    exact ⟨p', f', by omega⟩
  · intro x hx
    rcases List.mem_append.mp hx with z | z
    · obtain ⟨p', f', l'⟩ := h.bel x z
      exact ⟨p', f', by omega⟩
    · rw [List.mem_singleton.mp z]; exact ⟨p, fu, Nat.lt_succ_self _⟩
  · intro x hx
    rcases List.mem_append.mp hx with z | z
    · rcases List.mem_append.mp z with z | z
      · exact h.l1 x (List.mem_append_left _ z)
      · rw [List.mem_singleton.mp z]; exact (two hs hle).1
    · rcases List.mem_cons.mp z with z | z
      · rw [z]; exact (two hs hle).2
      · exact h.l1 x (List.mem_append_right _ (List.mem_cons_of_mem _ (List.mem_cons_of_mem _ z)))
  · intro t ht
    refine (h.l2 t ht).mono fun g hg => ?_
    have inA : ∀ x ∈ some ++ [u] ++ l :: post, Lat ((some ++ [u] ++ l :: post).map co) (co x) := fun x hx => .of (List.mem_map_of_mem hx)
    have iu := inA u (List.mem_append_left _ (List.mem_append_right _ List.mem_cons_self))
    have il := inA l (List.mem_append_right _ List.mem_cons_self)
    have ul : ∀ g ∈ [co u, co l], Lat ((some ++ [u] ++ l :: post).map co) g := fun g hg => by
      rcases List.mem_cons.mp hg with e | e
      · rw [e]; exact iu
      · rw [List.mem_singleton.mp e]; exact il
    obtain ⟨x, hx, rfl⟩ := List.mem_map.mp hg
    rcases List.mem_append.mp hx with z | z
    · exact inA x (List.mem_append_left _ (List.mem_append_left _ z))
    · rcases List.mem_cons.mp z with z | z
      · rw [z]; exact eu.l2.mono ul
      · rcases List.mem_cons.mp z with z | z
        · rw [z]; exact eu.l1.mono ul
        · exact inA x (List.mem_append_right _ (List.mem_cons_of_mem _ z))
theorem Put.start {m : Nat} {G made : List (List Int)} {row : List Int} (h : Hnf m G made) (hr : row.length = m) : Put m ((G ++ [row]).map co) [] row made 0 := by
  refine ⟨fun _ h => absurd h List.not_mem_nil, hr, .nil, fun _ h => absurd h List.not_mem_nil, fun i h => absurd h (Nat.not_lt_zero _), h.ech, fun x hx => ?_, fun t ht => ?_⟩
  · rw [List.nil_append] at hx
    rcases List.mem_cons.mp hx with z | z
    · rw [z]; exact .of (List.mem_map_of_mem (List.mem_append_right _ List.mem_cons_self))
    · exact (h.l1 x z).sub_of fun g hg => by rw [List.map_append]; exact List.mem_append_left _ hg
  · obtain ⟨x, hx, rfl⟩ := List.mem_map.mp ht
    rw [List.nil_append]
    rcases List.mem_append.mp hx with z | z
    · exact (h.l2 x z).sub_of fun g hg => by rw [List.map_cons]; exact List.mem_cons_of_mem _ hg
    · rw [List.mem_singleton.mp z]; exact .of (by rw [List.map_cons]; exact List.mem_cons_self)
/-- the rows that are brought low in the end -/
structure Ready (m : Nat) (G ss : List (List Int)) : Prop where
  len : ∀ x ∈ ss, x.length = m
  ech : Ech 0 (ss.map co)
  l1 : ∀ x ∈ ss, Lat (G.map co) (co x)
  l2 : ∀ g ∈ G, Lat (ss.map co) (co g)
theorem Put.done {m : Nat} {G some : List (List Int)} {left : List Int} {N : Nat} (h : Put m (G.map co) some left [] N) : (fpL left < m → Ready m G (some ++ [left])) ∧ (¬ fpL left < m → Ready m G some) := by
  have hll := h.ll
  constructor
  · intro c
    have f := fpL_fp (xs := left) (by omega)
    have Nf : N ≤ fpL left := by
      rcases Nat.lt_or_ge (fpL left) N with z | z
      · exact absurd (h.lz _ z) f.nz
      · exact z
    refine ⟨fun x hx => ?_, ?_, fun x hx => h.l1 x hx, fun g hg => h.l2 _ (List.mem_map_of_mem hg)⟩
    · rcases List.mem_append.mp hx with z | z
      · exact h.len x z
      · rw [List.mem_singleton.mp z]; exact hll
    · rw [List.map_append]
      refine h.ech.snoc (fun x hx => ?_) f (Nat.zero_le _)
      obtain ⟨y, hy, rfl⟩ := List.mem_map.mp hx
      obtain ⟨p', f', l'⟩ := h.bel y hy
      exact ⟨p', f', by omega⟩
  · intro c
    have z := fpL_all (xs := left) (by omega)
    refine ⟨h.len, h.ech, fun x hx => h.l1 x (List.mem_append_left _ hx), fun g hg => (h.l2 _ (List.mem_map_of_mem hg)).mono fun y hy => ?_⟩
    obtain ⟨x, hx, rfl⟩ := List.mem_map.mp hy
    rcases List.mem_append.mp hx with w | w
    · exact .of (List.mem_map_of_mem w)
    · rw [List.mem_singleton.mp w]
      have e : co left = fun _ => 0 := funext z
      rw [e]; exact .zero
theorem Ready.low {m : Nat} {G ss ms : List (List Int)} (h : Ready m G ss) (hc : ss.length ≤ G.length) (L : Low m ss ms) : Hnf m G ms :=
  ⟨L.len, by rw [L.cnt]; exact hc, L.ech, fun x hx => (L.l1 x hx).mono fun g hg => by obtain ⟨y, hy, rfl⟩ := List.mem_map.mp hg; exact h.l1 y hy, fun x hx => (h.l2 x hx).mono fun g hg => by obtain ⟨y, hy, rfl⟩ := List.mem_map.mp hg; exact L.l2 y hy, L.pos, L.red⟩
theorem Hnf.nil (m : Nat) : Hnf m [] [] := ⟨fun _ h => absurd h List.not_mem_nil, Nat.le_refl _, .nil, fun _ h => absurd h List.not_mem_nil, fun _ h => absurd h List.not_mem_nil, fun _ h => absurd h List.not_mem_nil, .nil⟩
end El
/-! What a row leaves; multipliers. -/
namespace El
/-- what is left of row by the steps -/
structure Rest (m : Nat) (ms : List (List Int)) (row l : List Int) : Prop where
  len : l.length = m
  dif : Lat (ms.map co) (fun i => co row i - co l i)
  red : ∀ s ∈ ms, ∀ q, Fp (co s) q → 0 ≤ co l q ∧ co l q < co s q
theorem Rest.start {m : Nat} {row : List Int} (h : row.length = m) : Rest m [] row row :=
  ⟨h, by have e : (fun i => co row i - co row i) = fun _ => (0 : Int) := funext fun i => by omega
         rw [e]; exact .zero, fun _ h => absurd h List.not_mem_nil⟩
theorem Rest.snoc {m : Nat} {ms : List (List Int)} {row l s : List Int} {q : Nat} (h : Rest m ms row l) (hs : s.length = m) (f : Fp (co s) q) (hp : 0 < co s q) (hb : ∀ x ∈ ms, ∃ p, Fp (co x) p ∧ p < q) : Rest m (ms ++ [s]) row (lessL l s q) := by
  have ll : l.length = s.length := h.len.trans hs.symm
  refine ⟨by rw [less_len ll]; exact h.len, ?_, fun x hx p fx => ?_⟩
  · have z1 : Lat ((ms ++ [s]).map co) (fun i => co row i - co l i) := h.dif.sub_of fun g hg => by rw [List.map_append]; exact List.mem_append_left _ hg
    have z2 : Lat ((ms ++ [s]).map co) (co s) := .of (by rw [List.map_append]; exact List.mem_append_right _ List.mem_cons_self)
    have z := z1.sub (-((co l q).fdiv (co s q))) z2
    have e : (fun i => co row i - co l i - co s i * (-((co l q).fdiv (co s q)))) = fun i => co row i - co (lessL l s q) i := funext fun i => by rw [co_less ll, Int.mul_neg]; omega
    rwa [e] at z
  · rcases List.mem_append.mp hx with w | w
    · obtain ⟨p', f', l'⟩ := hb x w
      have := fx.uniq f'
      subst this
      rw [co_less ll, f.zs p l']
      have := h.red x w p fx
      simpa using this
    · rw [List.mem_singleton.mp w] at fx ⊢
      have := fx.uniq f
      subst this
      rw [co_less ll]
      obtain ⟨k, e1, e2⟩ := fd (a := co l p) (b := co s p) (by omega)
      omega
theorem Rest.nought {m : Nat} {G ms : List (List Int)} {row l : List Int} (H : Hnf m G ms) (h : Rest m ms row l) : (∀ i, co l i = 0) ↔ Lat (G.map co) (co row) := by
  have up : ∀ {x : Vc}, Lat (ms.map co) x → Lat (G.map co) x := fun hx => hx.mono fun g hg => by obtain ⟨y, hy, rfl⟩ := List.mem_map.mp hg; exact H.l1 y hy
  have dn : ∀ {x : Vc}, Lat (G.map co) x → Lat (ms.map co) x := fun hx => hx.mono fun g hg => by obtain ⟨y, hy, rfl⟩ := List.mem_map.mp hg; exact H.l2 y hy
  constructor
  · intro z
    have e : (fun i => co row i - co l i) = co row := funext fun i => by rw [z i]; omega
    have d := h.dif
    rw [e] at d
    exact up d
  · intro hr i
    have hl : Lat (ms.map co) (co l) := by
      have z := (dn hr).sub 1 h.dif
      have e : (fun i => co row i - (co row i - co l i) * 1) = co l := funext fun i => by omega
      rwa [e] at z
    by_cases c : fpL l < l.length
    · exfalso
      have f := fpL_fp c
      obtain ⟨s, hs, fs, dv⟩ := H.ech.fp hl f
      obtain ⟨y, hy, rfl⟩ := List.mem_map.mp hs
      have r := h.red y hy _ fs
      obtain ⟨k, hk⟩ := dv
      have pos := H.pos y hy _ fs
      have nz := f.nz
      have : co l (fpL l) = 0 := by
        have k0 : ¬ 1 ≤ k := fun l1 => by
          have : co y (fpL l) * 1 ≤ co y (fpL l) * k := Int.mul_le_mul_of_nonneg_left l1 (by omega)
          omega
        have k1 : ¬ k ≤ -1 := fun l1 => by
          have : co y (fpL l) * k ≤ co y (fpL l) * (-1) := Int.mul_le_mul_of_nonneg_left l1 (by omega)
          omega
        have : k = 0 := by omega
        rw [hk, this]; simp
      exact nz this
    · exact fpL_all c i
/-! ### multipliers -/
/-- the mixture of the rows by the numbers -/
def mixF (c : Nat → Int) : List (List Int) → Vc
  | [] => fun _ => 0
  | g :: G => fun i => c 0 * co g i + mixF (fun k => c (k + 1)) G i
/-- the rows with their units beside them -/
def unitOf (n k : Nat) : List Int := (List.range n).map fun p => if p = k then 1 else 0
theorem co_unit {n k j : Nat} (hj : j < n) : co (unitOf n k) j = if j = k then 1 else 0 := by
  rw [co_at (by unfold unitOf; rw [List.length_map, List.length_range]; exact hj)]
  unfold unitOf
  rw [List.getElem_map, List.getElem_range]
end El
/-! The multipliers that the units tell. -/
namespace El
theorem co_rep (n i : Nat) : co (List.replicate n 0) i = 0 := by
  by_cases h : i < n
  · rw [co_at (by rw [List.length_replicate]; exact h), List.getElem_replicate]
  · exact co_out (by rw [List.length_replicate]; omega)
end El
/-! Rows among which are rows of one number: what steps of them can be. -/
namespace El
/-- small steps of mixtures of G, and how great all parts are if those where steps begin are small -/
def Sml (j : Nat) (G : List Vc) (F : Nat) (W : Nat → Nat) : Prop :=
  ∃ E, Ech j E ∧ (∀ e ∈ E, Lat G e ∧ ∀ i, (e i).natAbs ≤ F) ∧ (∀ x, Lat G x → ∃ D : Int, D ≠ 0 ∧ Lat E (fun i => D * x i)) ∧
      ∀ (x : Vc) (P : Nat), (∃ D : Int, D ≠ 0 ∧ Lat G (fun i => D * x i)) → (∀ q, (∃ e ∈ E, Fp e q) → (x q).natAbs ≤ P) → ∀ i, (x i).natAbs ≤ W P
theorem Sml.small {d j n B : Nat} {G : List Vc} (hl : G.length ≤ n) (hG : ∀ g ∈ G, (∀ i < j, g i = 0) ∧ (∀ i, j + d ≤ i → g i = 0) ∧ ∀ i, (g i).natAbs ≤ B) : Sml j G (Fb n B) (Wb n B) := El.small d j n B G hl hG
theorem Sml.cons {j F B : Nat} {W : Nat → Nat} {R : List Vc} {a : Vc} (h : Sml (j + 1) R F W) (hR : ∀ g ∈ R, ∀ i < j + 1, g i = 0) (fa : Fp a j) (ba : ∀ i, (a i).natAbs ≤ B) (hB : B ≤ F) : Sml j (a :: R) F (fun P => W (2 * (B * P)) + P * B) := by
  obtain ⟨E, e1, e2, e3, e4⟩ := h
  have up : ∀ {x : Vc}, Lat R x → Lat (a :: R) x := fun h => h.sub_of fun g hg => List.mem_cons_of_mem _ hg
  have z0 : ∀ x, Lat R x → x j = 0 := fun x hx => hx.zeros fun g hg => hR g hg j (Nat.lt_succ_self _)
  refine ⟨a :: E, .cons fa (Nat.le_refl _) e1, fun e he => ?_, fun x hx => ?_, fun x P ⟨D, hD, hx⟩ hP i => ?_⟩
  · rcases List.mem_cons.mp he with rfl | he
    · exact ⟨.of List.mem_cons_self, fun i => Nat.le_trans (ba i) hB⟩
    · exact ⟨up (e2 e he).1, (e2 e he).2⟩
  · obtain ⟨k, y, hy, rfl⟩ := hx.head
    obtain ⟨D, hD, hy2⟩ := e3 y hy
    refine ⟨D, hD, ?_⟩
    have z := (Lat.mul (D * k) (Lat.of (List.mem_cons_self (a := a) (l := E)))).sum (hy2.sub_of fun e he => List.mem_cons_of_mem a he)
    have e : (fun i => D * k * a i + D * y i) = fun i => D * (k * a i + y i) := funext fun i => by rw [Int.mul_add, Int.mul_assoc]
    rwa [e] at z
  · obtain ⟨k, y, hy, e⟩ := hx.head
    have ek : D * x j = k * a j := by
      have z : D * x j = k * a j + y j := congrFun e j
      rw [z0 y hy, Int.add_zero] at z
      exact z
    have ey : (fun i => D * (a j * x i - x j * a i)) = fun i => a j * y i := funext fun i => by
      have z : D * x i = k * a i + y i := congrFun e i
      rw [Int.mul_sub, Int.mul_left_comm D (a j), z, ← Int.mul_assoc D, ek, Int.mul_add, Int.mul_assoc k, Int.mul_left_comm (a j) k]; omega
    have px : (x j).natAbs ≤ P := hP j ⟨a, List.mem_cons_self, fa⟩
    have bound : ∀ (a b : Int) (u v : Nat), a.natAbs ≤ u → b.natAbs ≤ v → (a * b).natAbs ≤ u * v := fun a b u v h1 h2 => by rw [Int.natAbs_mul]; exact Nat.mul_le_mul h1 h2
    have yi := e4 (fun i => a j * x i - x j * a i) (2 * (B * P)) ⟨D, hD, by rw [ey]; exact hy.mul _⟩ (fun q ⟨e, he, f⟩ => by
      have b1 := bound (a j) (x q) B P (ba j) (hP q ⟨e, List.mem_cons_of_mem _ he, f⟩)
      have b2 := bound (x j) (a q) P B px (ba q)
      rw [Nat.mul_comm P B] at b2
      show (a j * x q - x j * a q).natAbs ≤ _
      omega) i
    have b2 := bound (x j) (a i) P B px (ba i)
    have b3 : (x i).natAbs ≤ (a j * x i).natAbs := by
      rw [Int.natAbs_mul]
      exact Nat.le_mul_of_pos_left _ (Int.natAbs_pos.mpr fa.nz)
    have yi' : (a j * x i - x j * a i).natAbs ≤ W (2 * (B * P)) := yi
    show (x i).natAbs ≤ W (2 * (B * P)) + P * B
    omega
def Wc (B : Nat) (W : Nat → Nat) : Nat → Nat → Nat
  | 0, P => W P
  | n + 1, P => Wc B W n (2 * (B * P)) + P * B
/-- rows whose steps are small -/
structure Tame (G : List (List Int)) : Prop where
  pv : ∀ ss : List (List Int), Ech 0 (ss.map co) → (∀ x ∈ ss, Lat (G.map co) (co x)) → (∀ x ∈ G, Lat (ss.map co) (co x)) → ∀ x ∈ ss, ∀ q, Fp (co x) q → (co x q).natAbs ≤ 2 ^ 1536
  pt : ∀ ss : List (List Int), Ech 0 (ss.map co) → (∀ x ∈ G, Lat (ss.map co) (co x)) → ∀ x : List Int, Lat (G.map co) (co x) → (∀ s ∈ ss, ∀ q, Fp (co s) q → (co x q).natAbs ≤ 2 ^ 1536) → ∀ i, (co x i).natAbs < 2 ^ 3200
theorem Tame.of {G : List (List Int)} {H : List Vc} {F : Nat} {W : Nat → Nat} (s : Sml 0 H F W) {D : Int} (hD : D ≠ 0) (h1 : ∀ g ∈ H, Lat (G.map co) g) (h2 : ∀ g ∈ G, Lat H (fun i => D * co g i)) (hF : F ≤ 2 ^ 1536) (hW : W (2 ^ 1536) < 2 ^ 3200) : Tame G := by
  obtain ⟨E, e1, e2, e3, e4⟩ := s
  have all : ∀ x, Lat (G.map co) x → Lat H (fun i => D * x i) := fun x hx => by
    induction hx with
    | zero => rw [show (fun i => D * (fun _ : Nat => (0 : Int)) i) = (fun _ : Nat => (0 : Int)) from funext fun i => by simp]; exact .zero
    | @add y g k _ hg ih =>
      obtain ⟨g', hg', rfl⟩ := List.mem_map.mp hg
      have z := ih.sum ((h2 g' hg').mul k)
      have e : (fun i => D * y i + k * (D * co g' i)) = fun i => D * (y i + k * co g' i) := funext fun i => by rw [Int.mul_add, Int.mul_left_comm k D]
      rwa [e] at z
  have down : ∀ {ss : List (List Int)}, (∀ x ∈ G, Lat (ss.map co) (co x)) → ∀ g ∈ G.map co, Lat (ss.map co) g := fun h g hg => by
    obtain ⟨y, hy, rfl⟩ := List.mem_map.mp hg
    exact h y hy
  refine ⟨fun ss em l1 l2 x hx q f => ?_, fun ss em l2 x hx hP i => ?_⟩
  · obtain ⟨D2, hD2, hz⟩ := e3 _ (all _ (l1 x hx))
    have fz : Fp (fun i => D2 * (D * co x i)) q := (f.mul hD).mul hD2
    obtain ⟨e, he, fe, _⟩ := e1.fp hz fz
    obtain ⟨t, ht, ft, dv⟩ := em.fp (((e2 e he).1.mono h1).mono (down l2)) fe
    have := em.one (List.mem_map_of_mem hx) ht f ft
    subst this
    exact Nat.le_trans (Nat.le_trans (Nat.le_of_dvd (Int.natAbs_pos.mpr fe.nz) (Int.natAbs_dvd_natAbs.mpr dv)) ((e2 e he).2 q)) hF
  · refine Nat.lt_of_le_of_lt (e4 (co x) (2 ^ 1536) ⟨D, hD, all _ hx⟩ (fun q ⟨e, he, f⟩ => ?_) i) hW
    obtain ⟨t, ht, ft, _⟩ := em.fp (((e2 e he).1.mono h1).mono (down l2)) f
    obtain ⟨s, hs, rfl⟩ := List.mem_map.mp ht
    exact hP s hs q ft
/-- rows that are put to steps one by one -/
structure Mild (m : Nat) (G : List (List Int)) : Prop where
  cnt : G.length ≤ 10
  len : ∀ g ∈ G, g.length = m
  sm : ∀ g ∈ G, ∀ i, (co g i).natAbs ≤ 1000
  tame : ∀ i, Tame (G.take i)
theorem Mild.all {m : Nat} {G : List (List Int)} (F : Mild m G) : Tame G := by
  have := F.tame G.length
  rwa [List.take_length] at this
theorem Mild.take {m : Nat} {G : List (List Int)} (F : Mild m G) (i : Nat) : Mild m (G.take i) :=
  ⟨by have := F.cnt; rw [List.length_take]; omega, fun g hg => F.len g (List.mem_of_mem_take hg), fun g hg => F.sm g (List.mem_of_mem_take hg), fun j => by rw [List.take_take]; exact F.tame _⟩
theorem Mild.head {m : Nat} {G : List (List Int)} {row : List Int} (F : Mild m (G ++ [row])) : Mild m G := by
  have := F.take G.length
  rwa [List.take_left] at this
end El
/-! The rows of a clock, and rows beside them. -/
namespace El
/-- a few small rows -/
structure Pair (m : Nat) (s : Nat) (G : List (List Int)) : Prop where
  hm : m ≤ 6
  s1 : 1 ≤ s
  s2 : s ≤ 700
  cnt : G.length ≤ 4
  len : ∀ g ∈ G, g.length = m
  sm : ∀ g ∈ G, ∀ i, (co g i).natAbs ≤ 30
theorem Sml.none (j : Nat) : Sml j [] (Fb 4 700) (Wb 4 700) := Sml.small (d := 0) (by decide) fun g hg => absurd hg List.not_mem_nil
theorem Pair.abs {m s : Nat} {G : List (List Int)} (p : Pair m s G) : ((s : Int)).natAbs ≤ 700 := by have := p.s2; omega
end El
/-! Steps by the least first part of a column. -/
namespace El
/-- in column c -/
structure Col (m c : Nat) (T : List Vc) (found some rest : List (List Int)) : Prop where
  len : ∀ x ∈ found ++ some ++ rest, x.length = m
  ech : Ech 0 (found.map co)
  bel : ∀ x ∈ found, ∃ p, Fp (co x) p ∧ p < c
  sf : ∀ x ∈ some, Fp (co x) c
  rz : ∀ x ∈ rest, ∀ i < c + 1, co x i = 0
  l1 : ∀ x ∈ found ++ some ++ rest, Lat T (co x)
  l2 : ∀ t ∈ T, Lat ((found ++ some ++ rest).map co) t
structure Upto (m c : Nat) (T : List Vc) (found rest : List (List Int)) : Prop where
  len : ∀ x ∈ found ++ rest, x.length = m
  ech : Ech 0 (found.map co)
  bel : ∀ x ∈ found, ∃ p, Fp (co x) p ∧ p < c
  rz : ∀ x ∈ rest, ∀ i < c, co x i = 0
  l1 : ∀ x ∈ found ++ rest, Lat T (co x)
  l2 : ∀ t ∈ T, Lat ((found ++ rest).map co) t
def nzB (c : Nat) (x : List Int) : Bool := decide (co x c ≠ 0)
theorem Upto.start {m : Nat} {G : List (List Int)} (h : ∀ g ∈ G, g.length = m) : Upto m 0 (G.map co) [] G :=
  ⟨h, .nil, fun _ h => absurd h List.not_mem_nil, fun _ _ i hi => absurd hi (Nat.not_lt_zero _), fun x hx => .of (List.mem_map_of_mem hx), fun t ht => .of ht⟩
theorem Upto.col {m c : Nat} {T : List Vc} {found rest : List (List Int)} (h : Upto m c T found rest) : Col m c T found (rest.filter (nzB c)) (rest.filter fun x => !nzB c x) := by
  have sub : ∀ x, x ∈ found ++ rest.filter (nzB c) ++ rest.filter (fun x => !nzB c x) → x ∈ found ++ rest := fun x hx => by
    rcases List.mem_append.mp hx with z | z
    · rcases List.mem_append.mp z with z | z
      · exact List.mem_append_left _ z
      · exact List.mem_append_right _ (List.mem_filter.mp z).1
    · exact List.mem_append_right _ (List.mem_filter.mp z).1
  have sup : ∀ x, x ∈ found ++ rest → x ∈ found ++ rest.filter (nzB c) ++ rest.filter (fun x => !nzB c x) := fun x hx => by
    rcases List.mem_append.mp hx with z | z
    · exact List.mem_append_left _ (List.mem_append_left _ z)
    · cases e : nzB c x with
      | true => exact List.mem_append_left _ (List.mem_append_right _ (List.mem_filter.mpr ⟨z, e⟩))
      | false => exact List.mem_append_right _ (List.mem_filter.mpr ⟨z, by rw [e]; rfl⟩)
  refine ⟨fun x hx => h.len x (sub x hx), h.ech, h.bel, fun x hx => ?_, fun x hx i hi => ?_, fun x hx => h.l1 x (sub x hx), fun t ht => (h.l2 t ht).sub_of fun g hg => ?_⟩
  · obtain ⟨a, b⟩ := List.mem_filter.mp hx
    exact ⟨of_decide_eq_true b, h.rz x a⟩
  · obtain ⟨a, b⟩ := List.mem_filter.mp hx
    rcases Nat.lt_or_eq_of_le (Nat.le_of_lt_succ hi) with z | z
    · exact h.rz x a i z
    · rw [z]
      unfold nzB at b
      simpa using b
  · obtain ⟨x, hx, rfl⟩ := List.mem_map.mp hg
    exact List.mem_map_of_mem (sup x hx)
theorem Col.done {m c : Nat} {T : List Vc} {found some rest : List (List Int)} (h : Col m c T found some rest) (h1 : some.length ≤ 1) : Upto m (c + 1) T (found ++ some) rest := by
  refine ⟨h.len, ?_, fun x hx => ?_, h.rz, h.l1, h.l2⟩
  · match some, h1, h.sf with
    | [], _, _ => rw [List.append_nil]; exact h.ech
    | [s], _, sf =>
      rw [List.map_append]
      refine h.ech.snoc (fun x hx => ?_) (sf s List.mem_cons_self) (Nat.zero_le _)
      obtain ⟨y, hy, rfl⟩ := List.mem_map.mp hx
      exact h.bel y hy
  · rcases List.mem_append.mp hx with z | z
    · obtain ⟨p, f, l⟩ := h.bel x z
      exact ⟨p, f, by omega⟩
    · exact ⟨c, h.sf x z, Nat.lt_succ_self _⟩
theorem Col.turn {m c : Nat} {T : List Vc} {found A B rest : List (List Int)} {lead : List Int} (h : Col m c T found (A ++ lead :: B) rest) :
    Col m c T found (lead :: ((A ++ B).map fun x => lessL x lead c).filter (nzB c)) (rest ++ ((A ++ B).map fun x => lessL x lead c).filter fun x => !nzB c x) := by
  have inS : ∀ x, x ∈ A ++ B → x ∈ A ++ lead :: B := fun x hx => by
    rcases List.mem_append.mp hx with z | z
    · exact List.mem_append_left _ z
    · exact List.mem_append_right _ (List.mem_cons_of_mem _ z)
  have lS : lead ∈ A ++ lead :: B := List.mem_append_right _ List.mem_cons_self
  have all : ∀ x ∈ A ++ lead :: B, x ∈ found ++ (A ++ lead :: B) ++ rest := fun x hx => List.mem_append_left _ (List.mem_append_right _ hx)
  have ll := h.len lead (all lead lS)
  have lL := h.l1 lead (all lead lS)
  have fl := h.sf lead lS
  have ln : ∀ x ∈ A ++ B, x.length = lead.length := fun x hx => (h.len x (all x (inS x hx))).trans ll.symm
  have ltr : ∀ y ∈ (A ++ B).map (fun x => lessL x lead c), y.length = m ∧ Lat T (co y) ∧ ∀ i < c, co y i = 0 := fun y hy => by
    obtain ⟨x, hx, rfl⟩ := List.mem_map.mp hy
    refine ⟨by rw [less_len (ln x hx)]; exact h.len x (all x (inS x hx)), ?_, fun i hi => by rw [co_less (ln x hx), (h.sf x (inS x hx)).zs i hi, fl.zs i hi]; simp⟩
    have z := (h.l1 x (all x (inS x hx))).sub ((co x c).fdiv (co lead c)) lL
    have e : (fun i => co x i - co lead i * (co x c).fdiv (co lead c)) = co (lessL x lead c) := funext fun i => (co_less (ln x hx) c i).symm
    rwa [e] at z
  have part : ∀ x, x ∈ found ++ (lead :: ((A ++ B).map fun x => lessL x lead c).filter (nzB c)) ++ (rest ++ ((A ++ B).map fun x => lessL x lead c).filter fun x => !nzB c x) → x ∈ found ++ (A ++ lead :: B) ++ rest ∨ x ∈ (A ++ B).map fun x => lessL x lead c := fun x hx => by
    rcases List.mem_append.mp hx with z | z
    · rcases List.mem_append.mp z with z | z
      · exact .inl (List.mem_append_left _ (List.mem_append_left _ z))
      · rcases List.mem_cons.mp z with z | z
        · rw [z]; exact .inl (all lead lS)
        · exact .inr (List.mem_filter.mp z).1
    · rcases List.mem_append.mp z with z | z
      · exact .inl (List.mem_append_right _ z)
      · exact .inr (List.mem_filter.mp z).1
  refine ⟨fun x hx => (part x hx).elim (h.len x) fun z => (ltr x z).1, h.ech, h.bel, fun x hx => ?_, fun x hx i hi => ?_, fun x hx => (part x hx).elim (h.l1 x) fun z => (ltr x z).2.1, fun t ht => (h.l2 t ht).mono fun g hg => ?_⟩
  · rcases List.mem_cons.mp hx with z | z
    · rw [z]; exact fl
    · obtain ⟨a, b⟩ := List.mem_filter.mp z
      exact ⟨of_decide_eq_true b, (ltr x a).2.2⟩
  · rcases List.mem_append.mp hx with z | z
    · exact h.rz x z i hi
    · obtain ⟨a, b⟩ := List.mem_filter.mp z
      rcases Nat.lt_or_eq_of_le (Nat.le_of_lt_succ hi) with w | w
      · exact (ltr x a).2.2 i w
      · rw [w]
        unfold nzB at b
        simpa using b
  · obtain ⟨x, hx, rfl⟩ := List.mem_map.mp hg
    have here : ∀ y, y ∈ found ++ (lead :: ((A ++ B).map fun x => lessL x lead c).filter (nzB c)) ++ (rest ++ ((A ++ B).map fun x => lessL x lead c).filter fun x => !nzB c x) →
        Lat ((found ++ (lead :: ((A ++ B).map fun x => lessL x lead c).filter (nzB c)) ++ (rest ++ ((A ++ B).map fun x => lessL x lead c).filter fun x => !nzB c x)).map co) (co y) := fun y hy => .of (List.mem_map_of_mem hy)
    have hlead := here lead (List.mem_append_left _ (List.mem_append_right _ List.mem_cons_self))
    have hlater : ∀ y ∈ (A ++ B).map (fun x => lessL x lead c), Lat ((found ++ (lead :: ((A ++ B).map fun x => lessL x lead c).filter (nzB c)) ++ (rest ++ ((A ++ B).map fun x => lessL x lead c).filter fun x => !nzB c x)).map co) (co y) := fun y hy => by
      cases e : nzB c y with
      | true => exact here y (List.mem_append_left _ (List.mem_append_right _ (List.mem_cons_of_mem _ (List.mem_filter.mpr ⟨hy, e⟩))))
      | false => exact here y (List.mem_append_right _ (List.mem_append_right _ (List.mem_filter.mpr ⟨hy, by rw [e]; rfl⟩)))
    have old : ∀ y ∈ A ++ B, Lat ((found ++ (lead :: ((A ++ B).map fun x => lessL x lead c).filter (nzB c)) ++ (rest ++ ((A ++ B).map fun x => lessL x lead c).filter fun x => !nzB c x)).map co) (co y) := fun y hy => by
      have z := (hlater _ (List.mem_map_of_mem hy)).sub (-((co y c).fdiv (co lead c))) hlead
      have e : (fun i => co (lessL y lead c) i - co lead i * (-((co y c).fdiv (co lead c)))) = co y := funext fun i => by rw [co_less (ln y hy), Int.mul_neg]; omega
      rwa [e] at z
    rcases List.mem_append.mp hx with z | z
    · rcases List.mem_append.mp z with z | z
      · exact here x (List.mem_append_left _ (List.mem_append_left _ z))
      · rcases List.mem_append.mp z with z | z
        · exact old x (List.mem_append_left _ z)
        · rcases List.mem_cons.mp z with z | z
          · rw [z]; exact hlead
          · exact old x (List.mem_append_right _ z)
    · exact here x (List.mem_append_right _ (List.mem_append_left _ z))
theorem Upto.all {m : Nat} {T : List Vc} {found rest : List (List Int)} (h : Upto m m T found rest) : ∀ t ∈ T, Lat (found.map co) t := fun t ht => (h.l2 t ht).mono fun g hg => by
  obtain ⟨x, hx, rfl⟩ := List.mem_map.mp hg
  rcases List.mem_append.mp hx with z | z
  · exact .of (List.mem_map_of_mem z)
  · have e : co x = fun _ => 0 := funext fun i => by
      rcases Nat.lt_or_ge i m with w | w
      · exact h.rz x z i w
      · exact co_out (by rw [h.len x hx]; exact w)
    rw [e]; exact .zero
/-! ### how great the parts can be -/
/-- ahead of the first turn: all at most M; later: what the turns keep -/
structure St1 (c Pi : Nat) (some : List (List Int)) : Prop where
  ex : ∃ N A, (∀ x ∈ some, ∀ i, (co x i).natAbs ≤ N) ∧ (∀ x ∈ some, (co x c).natAbs ≤ A) ∧ ((∀ x ∈ some, 0 < co x c) ∨ (∀ x ∈ some, co x c < 0)) ∧ ∃ y ∈ some, N * A * A * (co y c).natAbs ≤ Pi
theorem later_bound {x lead : List Int} {c N A : Nat} (hl : x.length = lead.length) (hN : ∀ i, (co x i).natAbs ≤ N) (hL : ∀ i, (co lead i).natAbs ≤ N) (hn : co lead c ≠ 0) (k : Nat) (hk : ((co x c).fdiv (co lead c)).natAbs ≤ k) (i : Nat) : (co (lessL x lead c) i).natAbs ≤ N + N * k := by
  rw [co_less hl]
  have h1 := Int.natAbs_sub_le (co x i) (co lead i * (co x c).fdiv (co lead c))
  rw [Int.natAbs_mul] at h1
  have h2 : (co lead i).natAbs * ((co x c).fdiv (co lead c)).natAbs ≤ N * k := Nat.mul_le_mul (hL i) hk
  have := hN i
  omega
/-- a turn of rows of one sign -/
theorem St1.turn {c Pi : Nat} {A0 B : List (List Int)} {lead : List Int} (h : St1 c Pi (A0 ++ lead :: B)) (hl : ∀ x ∈ A0 ++ B, x.length = lead.length) (hmin : ∀ x ∈ A0 ++ lead :: B, (co lead c).natAbs ≤ (co x c).natAbs) (hnz : co lead c ≠ 0) :
    (∀ y ∈ (A0 ++ B).map fun x => lessL x lead c, ∀ i, (co y i).natAbs ≤ 2 * Pi) ∧ (∀ i, (co lead i).natAbs ≤ 2 * Pi) ∧ (((A0 ++ B).map fun x => lessL x lead c).filter (nzB c) ≠ [] → St1 c Pi (lead :: ((A0 ++ B).map fun x => lessL x lead c).filter (nzB c))) := by
  obtain ⟨N, A, hN, hA, hs, y0, hy0, hPi⟩ := h.ex
  have inS : ∀ x, x ∈ A0 ++ B → x ∈ A0 ++ lead :: B := fun x hx => by
    rcases List.mem_append.mp hx with z | z
    · exact List.mem_append_left _ z
    · exact List.mem_append_right _ (List.mem_cons_of_mem _ z)
  have lS : lead ∈ A0 ++ lead :: B := List.mem_append_right _ List.mem_cons_self
  generalize hmu : (co lead c).natAbs = mu at hmin
  have mu1 : 1 ≤ mu := by omega
  have muA : mu ≤ A := by have := hA lead lS; omega
  have A1 : 1 ≤ A := by omega
  -- quotients
  have quo : ∀ x ∈ A0 ++ B, ∃ q : Nat, ((co x c).fdiv (co lead c)).natAbs = q ∧ 1 ≤ q ∧ q * mu + (co (lessL x lead c) c).natAbs = (co x c).natAbs ∧ (co (lessL x lead c) c).natAbs < mu ∧ (co (lessL x lead c) c = 0 ∨ ((0 < co lead c → 0 < co (lessL x lead c) c) ∧ (co lead c < 0 → co (lessL x lead c) c < 0))) := fun x hx => by
    have e := co_less (hl x hx) c c
    obtain ⟨r, e1, e2⟩ := fd (a := co x c) hnz
    have er : co (lessL x lead c) c = r := by omega
    rw [er]
    have mn := hmin x (inS x hx)
    refine ⟨_, rfl, ?_, ?_, by omega, by omega⟩
    · -- at least one goes
      rcases Nat.eq_zero_or_pos ((co x c).fdiv (co lead c)).natAbs with z | z
      · have z0 : (co x c).fdiv (co lead c) = 0 := by omega
        rw [z0, Int.mul_zero] at e1
        omega
      · exact z
    · have hx' : (0 < co lead c ∧ 0 < co x c) ∨ (co lead c < 0 ∧ co x c < 0) := hs.elim (fun p => .inl ⟨p lead lS, p x (inS x hx)⟩) fun p => .inr ⟨p lead lS, p x (inS x hx)⟩
      have q0 : 0 ≤ (co x c).fdiv (co lead c) := by
        rcases Int.lt_or_le ((co x c).fdiv (co lead c)) 0 with w | w
        · exfalso
          rcases hx' with ⟨p1, p2⟩ | ⟨p1, p2⟩
          · have : co lead c * (co x c).fdiv (co lead c) ≤ co lead c * (-1) := Int.mul_le_mul_of_nonneg_left (by omega) (by omega)
            omega
          · have : co lead c * (-1) ≤ co lead c * (co x c).fdiv (co lead c) := Int.mul_le_mul_of_nonpos_left (by omega) (by omega)
            omega
        · exact w
      have hq : ((co x c).fdiv (co lead c)).natAbs * mu = (co lead c * (co x c).fdiv (co lead c)).natAbs := by rw [Int.natAbs_mul, hmu, Nat.mul_comm]
      rw [hq]
      rcases hx' with ⟨p1, p2⟩ | ⟨p1, p2⟩
      · have : 0 ≤ co lead c * (co x c).fdiv (co lead c) := Int.mul_nonneg (by omega) q0
        omega
      · have : co lead c * (co x c).fdiv (co lead c) ≤ 0 := Int.mul_nonpos_of_nonpos_of_nonneg (by omega) q0
        omega
  have quoA : ∀ x ∈ A0 ++ B, ((co x c).fdiv (co lead c)).natAbs * mu ≤ A := fun x hx => by
    obtain ⟨q, e, _, h2, _⟩ := quo x hx
    rw [e]
    have := hA x (inS x hx)
    omega
  -- the greatest quotient
  have quoD : ∀ x ∈ A0 ++ B, ((co x c).fdiv (co lead c)).natAbs ≤ A / mu := fun x hx => (Nat.le_div_iff_mul_le (by omega)).mpr (quoA x hx)
  have big : ∀ y ∈ (A0 ++ B).map (fun x => lessL x lead c), ∀ i, (co y i).natAbs ≤ N + N * (A / mu) := fun y hy i => by
    obtain ⟨x, hx, rfl⟩ := List.mem_map.mp hy
    exact later_bound (A := A) (hl x hx) (hN x (inS x hx)) (hN lead lS) hnz _ (quoD x hx) i
  have dm : A / mu * mu ≤ A := Nat.div_mul_le_self A mu
  have y1 : mu ≤ (co y0 c).natAbs := hmin y0 hy0
  have P0 : N * A * A * mu ≤ Pi := Nat.le_trans (Nat.mul_le_mul_left _ y1) hPi
  have P1 : N * A ≤ Pi := Nat.le_trans (Nat.le_trans (Nat.le_mul_of_pos_right _ (by omega : 0 < A)) (Nat.le_mul_of_pos_right _ (by omega : 0 < mu))) P0
  have P2 : N ≤ Pi := Nat.le_trans (Nat.le_mul_of_pos_right _ (by omega : 0 < A)) P1
  have P3 : N * (A / mu) ≤ N * A := Nat.mul_le_mul_left _ (Nat.div_le_self A mu)
  refine ⟨fun y hy i => by have := big y hy i; omega, fun i => by have := hN lead lS i; omega, fun hne => ?_⟩
  obtain ⟨y', hy'⟩ := List.exists_mem_of_ne_nil _ hne
  obtain ⟨hy1, hy2⟩ := List.mem_filter.mp hy'
  obtain ⟨x, hx, ex⟩ := List.mem_map.mp hy1
  obtain ⟨q, eq, q1, q2, q3, _⟩ := quo x hx
  refine ⟨N + N * (A / mu), mu, fun z hz i => ?_, fun z hz => ?_, ?_, y', List.mem_cons_of_mem _ hy', ?_⟩
  · rcases List.mem_cons.mp hz with w | w
    · rw [w]; have := hN lead lS i; omega
    · exact big z (List.mem_filter.mp w).1 i
  · rcases List.mem_cons.mp hz with w | w
    · rw [w, hmu]; exact Nat.le_refl _
    · obtain ⟨x2, hx2, rfl⟩ := List.mem_map.mp (List.mem_filter.mp w).1
      obtain ⟨_, _, _, _, r3, _⟩ := quo x2 hx2
      omega
  · have signs : ∀ z ∈ ((A0 ++ B).map fun x => lessL x lead c).filter (nzB c), (0 < co lead c → 0 < co z c) ∧ (co lead c < 0 → co z c < 0) := fun z hz => by
      obtain ⟨w1, w2⟩ := List.mem_filter.mp hz
      obtain ⟨x2, hx2, rfl⟩ := List.mem_map.mp w1
      obtain ⟨_, _, _, _, _, r4⟩ := quo x2 hx2
      rcases r4 with r4 | r4
      · exact absurd r4 (of_decide_eq_true w2)
      · exact r4
    rcases hs with p | p
    · refine .inl fun z hz => ?_
      rcases List.mem_cons.mp hz with w | w
      · rw [w]; exact p lead lS
      · exact (signs z w).1 (p lead lS)
    · refine .inr fun z hz => ?_
      rcases List.mem_cons.mp hz with w | w
      · rw [w]; exact p lead lS
      · exact (signs z w).2 (p lead lS)
  · -- the potential does not grow
    have half : 2 * (co y' c).natAbs ≤ A := by
      rw [← ex]
      have := hA x (inS x hx)
      have : 1 * mu ≤ q * mu := Nat.mul_le_mul_right _ q1
      omega
    have e1 : (N + N * (A / mu)) * mu ≤ N * (2 * A) := by
      rw [Nat.add_mul, Nat.mul_assoc N, show 2 * A = A + A by omega, Nat.mul_add]
      exact Nat.add_le_add (Nat.mul_le_mul_left _ muA) (Nat.mul_le_mul_left _ dm)
    have e2 : (N + N * (A / mu)) * mu * mu * (co y' c).natAbs ≤ N * (2 * A) * mu * (co y' c).natAbs := Nat.mul_le_mul_right _ (Nat.mul_le_mul_right _ e1)
    have e3 : N * (2 * A) * mu * (co y' c).natAbs = N * A * mu * (2 * (co y' c).natAbs) := by
      rw [show N * (2 * A) = N * A * 2 by rw [Nat.mul_assoc, Nat.mul_comm 2 A], Nat.mul_right_comm (N * A) 2 mu, Nat.mul_assoc (N * A * mu)]
    have e4 : N * A * mu * (2 * (co y' c).natAbs) ≤ N * A * mu * A := Nat.mul_le_mul_left _ half
    have e5 : N * A * mu * A = N * A * A * mu := Nat.mul_right_comm _ _ _
    omega
/-- the first turn -/
theorem first_turn {c M : Nat} {A0 B : List (List Int)} {lead : List Int} (hM : ∀ x ∈ A0 ++ lead :: B, ∀ i, (co x i).natAbs ≤ M) (hl : ∀ x ∈ A0 ++ B, x.length = lead.length) (hnz : co lead c ≠ 0) (hmin : ∀ x ∈ A0 ++ lead :: B, (co lead c).natAbs ≤ (co x c).natAbs) :
    (∀ y ∈ (A0 ++ B).map fun x => lessL x lead c, ∀ i, (co y i).natAbs ≤ 6 * M ^ 4) ∧ (∀ i, (co lead i).natAbs ≤ 6 * M ^ 4) ∧ (((A0 ++ B).map fun x => lessL x lead c).filter (nzB c) ≠ [] → St1 c (3 * M ^ 4) (lead :: ((A0 ++ B).map fun x => lessL x lead c).filter (nzB c))) := by
  have inS : ∀ x, x ∈ A0 ++ B → x ∈ A0 ++ lead :: B := fun x hx => by
    rcases List.mem_append.mp hx with z | z
    · exact List.mem_append_left _ z
    · exact List.mem_append_right _ (List.mem_cons_of_mem _ z)
  have lS : lead ∈ A0 ++ lead :: B := List.mem_append_right _ List.mem_cons_self
  generalize hmu : (co lead c).natAbs = mu at hmin
  have mu1 : 1 ≤ mu := by omega
  have muM : mu ≤ M := by have := hM lead lS c; omega
  have quo : ∀ x ∈ A0 ++ B, ((co x c).fdiv (co lead c)).natAbs * mu ≤ M + mu ∧ (co (lessL x lead c) c).natAbs < mu ∧ (co (lessL x lead c) c = 0 ∨ ((0 < co lead c → 0 < co (lessL x lead c) c) ∧ (co lead c < 0 → co (lessL x lead c) c < 0))) := fun x hx => by
    have e := co_less (hl x hx) c c
    obtain ⟨r, e1, e2⟩ := fd (a := co x c) hnz
    have er : co (lessL x lead c) c = r := by omega
    rw [er]
    have hq : ((co x c).fdiv (co lead c)).natAbs * mu = (co lead c * (co x c).fdiv (co lead c)).natAbs := by rw [Int.natAbs_mul, hmu, Nat.mul_comm]
    have := hM x (inS x hx) c
    refine ⟨by rw [hq]; omega, by omega, by omega⟩
  have quoD : ∀ x ∈ A0 ++ B, ((co x c).fdiv (co lead c)).natAbs ≤ (M + mu) / mu := fun x hx => (Nat.le_div_iff_mul_le (by omega)).mpr (quo x hx).1
  have big : ∀ y ∈ (A0 ++ B).map (fun x => lessL x lead c), ∀ i, (co y i).natAbs ≤ M + M * ((M + mu) / mu) := fun y hy i => by
    obtain ⟨x, hx, rfl⟩ := List.mem_map.mp hy
    exact later_bound (A := M) (hl x hx) (hM x (inS x hx)) (hM lead lS) hnz _ (quoD x hx) i
  have dm : (M + mu) / mu * mu ≤ M + mu := Nat.div_mul_le_self _ mu
  have kk : (M + mu) / mu ≤ M + mu := Nat.div_le_self _ _
  have M1 : 1 ≤ M := by omega
  have e4 : M ^ 4 = M * M * M * M := by rw [Nat.pow_succ, Nat.pow_succ, Nat.pow_succ, Nat.pow_one]
  have p1 : M ≤ M * M := Nat.le_mul_of_pos_right _ M1
  have p2 : M * M ≤ M * M * M := Nat.le_mul_of_pos_right _ M1
  have p3 : M * M * M ≤ M * M * M * M := Nat.le_mul_of_pos_right _ M1
  have b1 : M * ((M + mu) / mu) ≤ M * (M + mu) := Nat.mul_le_mul_left _ kk
  have b2 : M * (M + mu) ≤ M * M + M * M := by rw [Nat.mul_add]; exact Nat.add_le_add_left (Nat.mul_le_mul_left _ muM) _
  rw [e4]
  refine ⟨fun y hy i => by have := big y hy i; omega, fun i => by have := hM lead lS i; omega, fun hne => ?_⟩
  obtain ⟨y', hy'⟩ := List.exists_mem_of_ne_nil _ hne
  obtain ⟨hy1, hy2⟩ := List.mem_filter.mp hy'
  obtain ⟨x, hx, ex⟩ := List.mem_map.mp hy1
  refine ⟨M + M * ((M + mu) / mu), mu, fun z hz i => ?_, fun z hz => ?_, ?_, y', List.mem_cons_of_mem _ hy', ?_⟩
  · rcases List.mem_cons.mp hz with w | w
    · rw [w]; have := hM lead lS i; omega
    · exact big z (List.mem_filter.mp w).1 i
  · rcases List.mem_cons.mp hz with w | w
    · rw [w, hmu]; exact Nat.le_refl _
    · obtain ⟨x2, hx2, rfl⟩ := List.mem_map.mp (List.mem_filter.mp w).1
      exact Nat.le_of_lt (quo x2 hx2).2.1
  · have signs : ∀ z ∈ ((A0 ++ B).map fun x => lessL x lead c).filter (nzB c), (0 < co lead c → 0 < co z c) ∧ (co lead c < 0 → co z c < 0) := fun z hz => by
      obtain ⟨w1, w2⟩ := List.mem_filter.mp hz
      obtain ⟨x2, hx2, rfl⟩ := List.mem_map.mp w1
      rcases (quo x2 hx2).2.2 with r4 | r4
      · exact absurd r4 (of_decide_eq_true w2)
      · exact r4
    rcases Int.lt_trichotomy (co lead c) 0 with p | p | p
    · refine .inr fun z hz => ?_
      rcases List.mem_cons.mp hz with w | w
      · rw [w]; exact p
      · exact (signs z w).2 p
    · exact absurd p hnz
    · refine .inl fun z hz => ?_
      rcases List.mem_cons.mp hz with w | w
      · rw [w]; exact p
      · exact (signs z w).1 p
  · have hy3 : (co y' c).natAbs ≤ M := by rw [← ex]; have := (quo x hx).2.1; omega
    have e1 : (M + M * ((M + mu) / mu)) * mu ≤ 3 * (M * M) := by
      rw [Nat.add_mul, Nat.mul_assoc M]
      have a1 : M * mu ≤ M * M := Nat.mul_le_mul_left _ muM
      have a2 : M * ((M + mu) / mu * mu) ≤ M * (M + mu) := Nat.mul_le_mul_left _ dm
      omega
    have e2 : (M + M * ((M + mu) / mu)) * mu * mu * (co y' c).natAbs ≤ 3 * (M * M) * M * M := Nat.mul_le_mul (Nat.mul_le_mul e1 muM) hy3
    have e3 : 3 * (M * M) * M * M = 3 * (M * M * M * M) := by rw [Nat.mul_assoc 3, Nat.mul_assoc 3]
    omega
end El
/-! The law's own steps, column by column. -/
namespace El
def aB : Nat → Nat
  | 0 => 5
  | c + 1 => 4 * aB c + 3
theorem aB_up : ∀ (c d : Nat), c ≤ d → aB c ≤ aB d := fun c d h => by
  induction h with
  | refl => exact Nat.le_refl _
  | step _ ih => exact Nat.le_trans ih (by show _ ≤ 4 * aB _ + 3; omega)
theorem aB5 {c : Nat} (h : c < 6) : aB c ≤ 6143 := Nat.le_trans (aB_up c 5 (by omega)) (by decide)
theorem aB6 {c : Nat} (h : c ≤ 6) : aB c ≤ 24575 := Nat.le_trans (aB_up c 6 (by omega)) (by decide)
theorem M_next {c : Nat} {x : Nat} (h : x ≤ 6 * (2 ^ aB c) ^ 4) : x < 2 ^ aB (c + 1) := by
  have e : (2 ^ aB c) ^ 4 = 2 ^ (4 * aB c) := by rw [← Nat.pow_mul, Nat.mul_comm]
  have e2 : 2 ^ aB (c + 1) = 2 ^ (4 * aB c) * 8 := by show 2 ^ (4 * aB c + 3) = _; rw [Nat.pow_add]
  rw [e] at h
  rw [e2]
  have : 0 < 2 ^ (4 * aB c) := Nat.pow_pos (by decide)
  omega
theorem M_self (c : Nat) : 2 ^ aB c ≤ 6 * (2 ^ aB c) ^ 4 := by
  have h1 : 0 < 2 ^ aB c := Nat.pow_pos (by decide)
  generalize 2 ^ aB c = M at h1
  rw [Nat.pow_succ, Nat.pow_succ, Nat.pow_succ, Nat.pow_one]
  have p1 : M ≤ M * M := Nat.le_mul_of_pos_right _ h1
  have p2 : M * M ≤ M * M * M := Nat.le_mul_of_pos_right _ h1
  have p3 : M * M * M ≤ M * M * M * M := Nat.le_mul_of_pos_right _ h1
  omega
/-- while a column is worked on -/
structure Turn (m c : Nat) (T : List Vc) (found some rest : List (List Int)) : Prop where
  col : Col m c T found some rest
  how : (∀ x ∈ some, ∀ i, (co x i).natAbs ≤ 2 ^ aB c) ∨ St1 c (3 * (2 ^ aB c) ^ 4) some ∨ some.length ≤ 1
  ss : ∀ x ∈ some, ∀ i, (co x i).natAbs ≤ 6 * (2 ^ aB c) ^ 4
  sr : ∀ x ∈ rest, ∀ i, (co x i).natAbs ≤ 6 * (2 ^ aB c) ^ 4
  at_ : ∀ x ∈ some, (co x c).natAbs ≤ 2 ^ aB c
def szs (c : Nat) (some : List (List Int)) : Nat := (some.map fun x => (co x c).natAbs).sum
theorem szs_filter (c : Nat) (p : List Int → Bool) : ∀ L : List (List Int), szs c (L.filter p) ≤ szs c L
  | [] => Nat.le_refl _
  | x :: L => by
    have ih := szs_filter c p L
    unfold szs at ih ⊢
    rw [List.filter_cons]
    split
    · rw [List.map_cons, List.map_cons, List.sum_cons, List.sum_cons]; omega
    · rw [List.map_cons, List.sum_cons]; omega
theorem szs_less (c : Nat) (f : List Int → List Int) : ∀ L : List (List Int), (∀ x ∈ L, (co (f x) c).natAbs < (co x c).natAbs) → szs c (L.map f) + L.length ≤ szs c L
  | [], _ => Nat.le_refl _
  | x :: L, h => by
    have ih := szs_less c f L fun y hy => h y (List.mem_cons_of_mem _ hy)
    have := h x List.mem_cons_self
    unfold szs at ih ⊢
    rw [List.map_cons, List.map_cons, List.map_cons, List.sum_cons, List.sum_cons, List.length_cons]
    omega
theorem szs_app (c : Nat) (A B : List (List Int)) : szs c (A ++ B) = szs c A + szs c B := by
  unfold szs
  rw [List.map_append, List.sum_append]
theorem Turn.next {m c : Nat} {T : List Vc} {found A B rest : List (List Int)} {lead : List Int} (h : Turn m c T found (A ++ lead :: B) rest) (hmin : ∀ x ∈ A ++ lead :: B, (co lead c).natAbs ≤ (co x c).natAbs) (hne : A ++ B ≠ []) :
    Turn m c T found (lead :: ((A ++ B).map fun x => lessL x lead c).filter (nzB c)) (rest ++ ((A ++ B).map fun x => lessL x lead c).filter fun x => !nzB c x) ∧
      szs c (lead :: ((A ++ B).map fun x => lessL x lead c).filter (nzB c)) < szs c (A ++ lead :: B) := by
  have inS : ∀ x, x ∈ A ++ B → x ∈ A ++ lead :: B := fun x hx => by
    rcases List.mem_append.mp hx with z | z
    · exact List.mem_append_left _ z
    · exact List.mem_append_right _ (List.mem_cons_of_mem _ z)
  have lS : lead ∈ A ++ lead :: B := List.mem_append_right _ List.mem_cons_self
  have hnz : co lead c ≠ 0 := (h.col.sf lead lS).nz
  have all : ∀ x ∈ A ++ lead :: B, x ∈ found ++ (A ++ lead :: B) ++ rest := fun x hx => List.mem_append_left _ (List.mem_append_right _ hx)
  have hl : ∀ x ∈ A ++ B, x.length = lead.length := fun x hx => (h.col.len x (all x (inS x hx))).trans (h.col.len lead (all lead lS)).symm
  have small : ∀ x ∈ A ++ B, (co (lessL x lead c) c).natAbs < (co lead c).natAbs := fun x hx => by
    have e := co_less (hl x hx) c c
    obtain ⟨r, e1, e2⟩ := fd (a := co x c) hnz
    omega
  -- the three promises of a turn
  have key : (∀ y ∈ (A ++ B).map fun x => lessL x lead c, ∀ i, (co y i).natAbs ≤ 6 * (2 ^ aB c) ^ 4) ∧ (((A ++ B).map fun x => lessL x lead c).filter (nzB c) ≠ [] → St1 c (3 * (2 ^ aB c) ^ 4) (lead :: ((A ++ B).map fun x => lessL x lead c).filter (nzB c))) := by
    rcases h.how with w | w | w
    · obtain ⟨k1, _, k3⟩ := first_turn w hl hnz hmin
      exact ⟨k1, k3⟩
    · obtain ⟨k1, _, k3⟩ := w.turn hl hmin hnz
      exact ⟨fun y hy i => by have := k1 y hy i; omega, k3⟩
    · exfalso
      have : 0 < (A ++ B).length := List.length_pos_iff.mpr hne
      rw [List.length_append] at this w
      rw [List.length_cons] at w
      omega
  obtain ⟨k1, k3⟩ := key
  have atl : (co lead c).natAbs ≤ 2 ^ aB c := h.at_ lead lS
  refine ⟨⟨h.col.turn, ?_, ?_, ?_, ?_⟩, ?_⟩
  · by_cases e : ((A ++ B).map fun x => lessL x lead c).filter (nzB c) = []
    · rw [e]; exact .inr (.inr (Nat.le_refl _))
    · exact .inr (.inl (k3 e))
  · intro x hx
    rcases List.mem_cons.mp hx with w | w
    · rw [w]; exact h.ss lead lS
    · exact k1 x (List.mem_filter.mp w).1
  · intro x hx
    rcases List.mem_append.mp hx with w | w
    · exact h.sr x w
    · exact k1 x (List.mem_filter.mp w).1
  · intro x hx
    rcases List.mem_cons.mp hx with w | w
    · rw [w]; exact atl
    · obtain ⟨y, hy, rfl⟩ := List.mem_map.mp (List.mem_filter.mp w).1
      have := small y hy
      omega
  · have s1 := szs_filter c (nzB c) ((A ++ B).map fun x => lessL x lead c)
    have s2 := szs_less c (fun x => lessL x lead c) (A ++ B) fun x hx => Nat.lt_of_lt_of_le (small x hx) (hmin x (inS x hx))
    have s3 : szs c (A ++ lead :: B) = szs c A + ((co lead c).natAbs + szs c B) := by
      rw [szs_app]; unfold szs; rw [List.map_cons, List.sum_cons]
    have s4 : szs c (lead :: ((A ++ B).map fun x => lessL x lead c).filter (nzB c)) = (co lead c).natAbs + szs c (((A ++ B).map fun x => lessL x lead c).filter (nzB c)) := by
      unfold szs; rw [List.map_cons, List.sum_cons]
    have s5 : 0 < (A ++ B).length := List.length_pos_iff.mpr hne
    have s6 := szs_app c A B
    omega
theorem Turn.start {m c : Nat} {T : List Vc} {found rest : List (List Int)} (h : Upto m c T found rest) (sm : ∀ x ∈ rest, Sm (aB c) x) : Turn m c T found (rest.filter (nzB c)) (rest.filter fun x => !nzB c x) :=
  ⟨h.col, .inl fun x hx i => Nat.le_of_lt (sm x (List.mem_filter.mp hx).1 i), fun x hx i => Nat.le_trans (Nat.le_of_lt (sm x (List.mem_filter.mp hx).1 i)) (M_self c), fun x hx i => Nat.le_trans (Nat.le_of_lt (sm x (List.mem_filter.mp hx).1 i)) (M_self c), fun x hx => Nat.le_of_lt (sm x (List.mem_filter.mp hx).1 c)⟩
/-- what the law's steps are -/
structure LSt (m : Nat) (G ms : List (List Int)) : Prop where
  len : ∀ x ∈ ms, x.length = m
  ech : Ech 0 (ms.map co)
  l1 : ∀ x ∈ ms, Lat (G.map co) (co x)
  l2 : ∀ x ∈ G, Lat (ms.map co) (co x)
  sm : ∀ x ∈ ms, Sm 24575 x
  pv : ∀ x ∈ ms, ∀ q, Fp (co x) q → (co x q).natAbs ≤ 2 ^ 6143
/-- the columns done so far -/
structure Cols (m c : Nat) (G found rest : List (List Int)) : Prop where
  up : Upto m c (G.map co) found rest
  sf : ∀ x ∈ found, Sm (aB c) x
  sr : ∀ x ∈ rest, Sm (aB c) x
  pv : ∀ x ∈ found, ∀ q, Fp (co x) q → (co x q).natAbs ≤ 2 ^ 6143
theorem Cols.start {m : Nat} {G : List (List Int)} (h : ∀ g ∈ G, g.length = m) (hs : ∀ g ∈ G, ∀ i, (co g i).natAbs ≤ 30) : Cols m 0 G [] G :=
  ⟨Upto.start h, fun _ h => absurd h List.not_mem_nil, fun x hx i => Nat.lt_of_le_of_lt (hs x hx i) (by decide), fun _ h => absurd h List.not_mem_nil⟩
theorem Cols.next {m c : Nat} {G found some rest : List (List Int)} (h : ∀ x ∈ found, Sm (aB c) x) (hp : ∀ x ∈ found, ∀ q, Fp (co x) q → (co x q).natAbs ≤ 2 ^ 6143) (hc : c < 6) (t : Turn m c (G.map co) found some rest) (h1 : some.length ≤ 1) : Cols m (c + 1) G (found ++ some) rest := by
  refine ⟨t.col.done h1, fun x hx => ?_, fun x hx i => M_next (t.sr x hx i), fun x hx q f => ?_⟩
  · rcases List.mem_append.mp hx with z | z
    · exact (h x z).up (aB_up c (c + 1) (Nat.le_succ _))
    · exact fun i => M_next (t.ss x z i)
  · rcases List.mem_append.mp hx with z | z
    · exact hp x z q f
    · have := f.uniq (t.col.sf x z)
      subst this
      exact Nat.le_trans (t.at_ x z) (Nat.pow_le_pow_right (by decide) (aB5 hc))
theorem Cols.done {m : Nat} {G found rest : List (List Int)} (h : Cols m m G found rest) (hm : m ≤ 6) : LSt m G found :=
  ⟨fun x hx => h.up.len x (List.mem_append_left _ hx), h.up.ech, fun x hx => h.up.l1 x (List.mem_append_left _ hx), fun g hg => h.up.all _ (List.mem_map_of_mem hg), fun x hx => (h.sf x hx).up (aB6 hm), h.pv⟩
end El
/-! What a row leaves by the law's steps. -/
namespace El
structure RestZ (m : Nat) (ms : List (List Int)) (row l : List Int) : Prop where
  len : l.length = m
  dif : Lat (ms.map co) (fun i => co row i - co l i)
  red : ∀ s ∈ ms, ∀ q, Fp (co s) q → (co l q).natAbs < (co s q).natAbs
theorem RestZ.start {m : Nat} {row : List Int} (h : row.length = m) : RestZ m [] row row :=
  ⟨h, by have e : (fun i => co row i - co row i) = fun _ => (0 : Int) := funext fun i => by omega
         rw [e]; exact .zero, fun _ h => absurd h List.not_mem_nil⟩
theorem RestZ.snoc {m : Nat} {ms : List (List Int)} {row l s : List Int} {q : Nat} (h : RestZ m ms row l) (hs : s.length = m) (f : Fp (co s) q) (hb : ∀ x ∈ ms, ∃ p, Fp (co x) p ∧ p < q) : RestZ m (ms ++ [s]) row (lessL l s q) := by
  have ll : l.length = s.length := h.len.trans hs.symm
  refine ⟨by rw [less_len ll]; exact h.len, ?_, fun x hx p fx => ?_⟩
  · have z1 : Lat ((ms ++ [s]).map co) (fun i => co row i - co l i) := h.dif.sub_of fun g hg => by rw [List.map_append]; exact List.mem_append_left _ hg
    have z2 : Lat ((ms ++ [s]).map co) (co s) := .of (by rw [List.map_append]; exact List.mem_append_right _ List.mem_cons_self)
    have z := z1.sub (-((co l q).fdiv (co s q))) z2
    have e : (fun i => co row i - co l i - co s i * (-((co l q).fdiv (co s q)))) = fun i => co row i - co (lessL l s q) i := funext fun i => by rw [co_less ll, Int.mul_neg]; omega
    rwa [e] at z
  · rcases List.mem_append.mp hx with w | w
    · obtain ⟨p', f', l'⟩ := hb x w
      have := fx.uniq f'
      subst this
      rw [co_less ll, f.zs p l']
      have := h.red x w p fx
      simpa using this
    · rw [List.mem_singleton.mp w] at fx ⊢
      have := fx.uniq f
      subst this
      rw [co_less ll]
      obtain ⟨k, e1, e2⟩ := fd (a := co l p) (b := co s p) fx.nz
      omega
theorem RestZ.nought {m : Nat} {G ms : List (List Int)} {row l : List Int} (H : LSt m G ms) (h : RestZ m ms row l) : (∀ i, co l i = 0) ↔ Lat (G.map co) (co row) := by
  have up : ∀ {x : Vc}, Lat (ms.map co) x → Lat (G.map co) x := fun hx => hx.mono fun g hg => by obtain ⟨y, hy, rfl⟩ := List.mem_map.mp hg; exact H.l1 y hy
  have dn : ∀ {x : Vc}, Lat (G.map co) x → Lat (ms.map co) x := fun hx => hx.mono fun g hg => by obtain ⟨y, hy, rfl⟩ := List.mem_map.mp hg; exact H.l2 y hy
  constructor
  · intro z
    have e : (fun i => co row i - co l i) = co row := funext fun i => by rw [z i]; omega
    have d := h.dif
    rw [e] at d
    exact up d
  · intro hr i
    have hl : Lat (ms.map co) (co l) := by
      have z := (dn hr).sub 1 h.dif
      have e : (fun i => co row i - (co row i - co l i) * 1) = co l := funext fun i => by omega
      rwa [e] at z
    by_cases c : fpL l < l.length
    · exfalso
      have f := fpL_fp c
      obtain ⟨s, hs, fs, dv⟩ := H.ech.fp hl f
      obtain ⟨y, hy, rfl⟩ := List.mem_map.mp hs
      have r := h.red y hy _ fs
      have := Nat.le_of_dvd (Int.natAbs_pos.mpr f.nz) (Int.natAbs_dvd_natAbs.mpr dv)
      omega
    · exact fpL_all c i
/-- the first of the places where a row isn't nought -/
theorem places {x : List Int} {q : Nat} (f : Fp (co x) q) (hq : q < x.length) : ((List.range x.length).filter fun k => decide (co x k ≠ 0))[0]? = some q := by
  rw [← List.head?_eq_getElem?, List.head?_filter]
  refine List.find?_range_eq_some.mpr ⟨decide_eq_true f.nz, List.mem_range.mpr hq, fun j hj => ?_⟩
  rw [f.zs j hj]
  rfl
theorem lessZ_sm {a e : Nat} {x s : List Int} {q : Nat} (hl : x.length = s.length) (hx : Sm a x) (hs : Sm e s) (hp : co s q ≠ 0) : Sm (a + e + 1) (lessL x s q) := fun i => by
  have hk : ((co x q).fdiv (co s q)).natAbs ≤ (co x q).natAbs := by
    rcases Int.lt_trichotomy (co s q) 0 with h | h | h
    · rw [← Int.neg_fdiv_neg (co x q) (co s q)]
      have := fdiv_le (a := -co x q) (b := -co s q) (by omega)
      omega
    · exact absurd h hp
    · exact fdiv_le h
  rw [co_less hl]
  have h1 := Int.natAbs_sub_le (co x i) (co s i * (co x q).fdiv (co s q))
  rw [Int.natAbs_mul] at h1
  have h2 : (co s i).natAbs * ((co x q).fdiv (co s q)).natAbs ≤ 2 ^ e * 2 ^ a := Nat.mul_le_mul (Nat.le_of_lt (hs i)) (Nat.le_of_lt (Nat.lt_of_le_of_lt hk (hx q)))
  have h3 := hx i
  have h4 : 2 ^ a ≤ 2 ^ (a + e) := Nat.pow_le_pow_right (by decide) (by omega)
  have h5 : 2 ^ e * 2 ^ a = 2 ^ (a + e) := by rw [← Nat.pow_add, Nat.add_comm]
  have h6 : 2 ^ (a + e + 1) = 2 ^ (a + e) + 2 ^ (a + e) := by rw [Nat.pow_succ]; omega
  omega
theorem ech_count : ∀ {n m : Nat} {ss : List Vc}, Ech n ss → (∀ s ∈ ss, ∀ i, m ≤ i → s i = 0) → n ≤ m → ss.length + n ≤ m
  | _, _, _, .nil, _, h => by rw [List.length_nil]; omega
  | n, m, _, .cons (q := q) (s := s) f l e, hz, h => by
    have qm : q < m := by
      rcases Nat.lt_or_ge q m with w | w
      · exact w
      · exact absurd (hz s List.mem_cons_self q w) f.nz
    have := ech_count e (fun x hx => hz x (List.mem_cons_of_mem _ hx)) qm
    rw [List.length_cons]
    omega
end El
/-! The law's own steps where the rows of a clock are among the rows. -/
namespace El
def aC : Nat → Nat
  | 0 => 10
  | c + 1 => 4 * aC c + 3
theorem aC_up : ∀ (c d : Nat), c ≤ d → aC c ≤ aC d := fun c d h => by
  induction h with
  | refl => exact Nat.le_refl _
  | step _ ih => exact Nat.le_trans ih (by show _ ≤ 4 * aC _ + 3; omega)
theorem aC6 {c : Nat} (h : c ≤ 6) : aC c ≤ 45055 := Nat.le_trans (aC_up c 6 (by omega)) (by decide)
theorem C_next {c : Nat} {x : Nat} (h : x ≤ 6 * (2 ^ aC c) ^ 4) : x < 2 ^ aC (c + 1) := by
  have e : (2 ^ aC c) ^ 4 = 2 ^ (4 * aC c) := by rw [← Nat.pow_mul, Nat.mul_comm]
  have e2 : 2 ^ aC (c + 1) = 2 ^ (4 * aC c) * 8 := by show 2 ^ (4 * aC c + 3) = _; rw [Nat.pow_add]
  rw [e] at h
  rw [e2]
  have : 0 < 2 ^ (4 * aC c) := Nat.pow_pos (by decide)
  omega
theorem C_self (c : Nat) : 2 ^ aC c ≤ 6 * (2 ^ aC c) ^ 4 := by
  have h1 : 0 < 2 ^ aC c := Nat.pow_pos (by decide)
  generalize 2 ^ aC c = M at h1
  rw [Nat.pow_succ, Nat.pow_succ, Nat.pow_succ, Nat.pow_one]
  have p1 : M ≤ M * M := Nat.le_mul_of_pos_right _ h1
  have p2 : M * M ≤ M * M * M := Nat.le_mul_of_pos_right _ h1
  have p3 : M * M * M ≤ M * M * M * M := Nat.le_mul_of_pos_right _ h1
  omega
/-- for each place from c on a row that is not nought there alone, and small -/
def Pris (m c : Nat) (rest : List (List Int)) : Prop := ∀ j, c ≤ j → j < m → ∃ x ∈ rest, (∀ i, i ≠ j → co x i = 0) ∧ co x j ≠ 0 ∧ (co x j).natAbs ≤ 1000
/-- while a column is worked on -/
structure TurnC (m c : Nat) (T : List Vc) (found some rest : List (List Int)) : Prop where
  col : Col m c T found some rest
  how : (∀ x ∈ some, ∀ i, (co x i).natAbs ≤ 2 ^ aC c) ∨ St1 c (3 * (2 ^ aC c) ^ 4) some ∨ some.length ≤ 1
  ss : ∀ x ∈ some, ∀ i, (co x i).natAbs ≤ 6 * (2 ^ aC c) ^ 4
  sr : ∀ x ∈ rest, ∀ i, (co x i).natAbs ≤ 6 * (2 ^ aC c) ^ 4
  at_ : ∀ x ∈ some, (co x c).natAbs ≤ 2 ^ aC c
  lo : ∃ x ∈ some, (co x c).natAbs ≤ 1000
  pris : Pris m (c + 1) rest
theorem TurnC.next {m c : Nat} {T : List Vc} {found A B rest : List (List Int)} {lead : List Int} (h : TurnC m c T found (A ++ lead :: B) rest) (hmin : ∀ x ∈ A ++ lead :: B, (co lead c).natAbs ≤ (co x c).natAbs) (hne : A ++ B ≠ []) :
    TurnC m c T found (lead :: ((A ++ B).map fun x => lessL x lead c).filter (nzB c)) (rest ++ ((A ++ B).map fun x => lessL x lead c).filter fun x => !nzB c x) ∧
      szs c (lead :: ((A ++ B).map fun x => lessL x lead c).filter (nzB c)) < szs c (A ++ lead :: B) := by
  have inS : ∀ x, x ∈ A ++ B → x ∈ A ++ lead :: B := fun x hx => by
    rcases List.mem_append.mp hx with z | z
    · exact List.mem_append_left _ z
    · exact List.mem_append_right _ (List.mem_cons_of_mem _ z)
  have lS : lead ∈ A ++ lead :: B := List.mem_append_right _ List.mem_cons_self
  have hnz : co lead c ≠ 0 := (h.col.sf lead lS).nz
  have all : ∀ x ∈ A ++ lead :: B, x ∈ found ++ (A ++ lead :: B) ++ rest := fun x hx => List.mem_append_left _ (List.mem_append_right _ hx)
  have hl : ∀ x ∈ A ++ B, x.length = lead.length := fun x hx => (h.col.len x (all x (inS x hx))).trans (h.col.len lead (all lead lS)).symm
  have small : ∀ x ∈ A ++ B, (co (lessL x lead c) c).natAbs < (co lead c).natAbs := fun x hx => by
    have e := co_less (hl x hx) c c
    obtain ⟨r, e1, e2⟩ := fd (a := co x c) hnz
    omega
  -- the three promises of a turn
  have key : (∀ y ∈ (A ++ B).map fun x => lessL x lead c, ∀ i, (co y i).natAbs ≤ 6 * (2 ^ aC c) ^ 4) ∧ (((A ++ B).map fun x => lessL x lead c).filter (nzB c) ≠ [] → St1 c (3 * (2 ^ aC c) ^ 4) (lead :: ((A ++ B).map fun x => lessL x lead c).filter (nzB c))) := by
    rcases h.how with w | w | w
    · obtain ⟨k1, _, k3⟩ := first_turn w hl hnz hmin
      exact ⟨k1, k3⟩
    · obtain ⟨k1, _, k3⟩ := w.turn hl hmin hnz
      exact ⟨fun y hy i => by have := k1 y hy i; omega, k3⟩
    · exfalso
      have : 0 < (A ++ B).length := List.length_pos_iff.mpr hne
      rw [List.length_append] at this w
      rw [List.length_cons] at w
      omega
  obtain ⟨k1, k3⟩ := key
  have atl : (co lead c).natAbs ≤ 2 ^ aC c := h.at_ lead lS
  have lo1 : (co lead c).natAbs ≤ 1000 := by
    obtain ⟨x, hx, lx⟩ := h.lo
    exact Nat.le_trans (hmin x hx) lx
  refine ⟨⟨h.col.turn, ?_, ?_, ?_, ?_, ⟨lead, List.mem_cons_self, lo1⟩, fun j h1 h2 => by
    obtain ⟨x, hx, w⟩ := h.pris j h1 h2
    exact ⟨x, List.mem_append_left _ hx, w⟩⟩, ?_⟩
  · by_cases e : ((A ++ B).map fun x => lessL x lead c).filter (nzB c) = []
    · rw [e]; exact .inr (.inr (Nat.le_refl _))
    · exact .inr (.inl (k3 e))
  · intro x hx
    rcases List.mem_cons.mp hx with w | w
    · rw [w]; exact h.ss lead lS
    · exact k1 x (List.mem_filter.mp w).1
  · intro x hx
    rcases List.mem_append.mp hx with w | w
    · exact h.sr x w
    · exact k1 x (List.mem_filter.mp w).1
  · intro x hx
    rcases List.mem_cons.mp hx with w | w
    · rw [w]; exact atl
    · obtain ⟨y, hy, rfl⟩ := List.mem_map.mp (List.mem_filter.mp w).1
      have := small y hy
      omega
  · have s1 := szs_filter c (nzB c) ((A ++ B).map fun x => lessL x lead c)
    have s2 := szs_less c (fun x => lessL x lead c) (A ++ B) fun x hx => Nat.lt_of_lt_of_le (small x hx) (hmin x (inS x hx))
    have s3 : szs c (A ++ lead :: B) = szs c A + ((co lead c).natAbs + szs c B) := by
      rw [szs_app]; unfold szs; rw [List.map_cons, List.sum_cons]
    have s4 : szs c (lead :: ((A ++ B).map fun x => lessL x lead c).filter (nzB c)) = (co lead c).natAbs + szs c (((A ++ B).map fun x => lessL x lead c).filter (nzB c)) := by
      unfold szs; rw [List.map_cons, List.sum_cons]
    have s5 : 0 < (A ++ B).length := List.length_pos_iff.mpr hne
    have s6 := szs_app c A B
    omega
theorem TurnC.start {m c : Nat} {T : List Vc} {found rest : List (List Int)} (h : Upto m c T found rest) (sm : ∀ x ∈ rest, Sm (aC c) x) (pr : Pris m c rest) (hc : c < m) : TurnC m c T found (rest.filter (nzB c)) (rest.filter fun x => !nzB c x) :=
  ⟨h.col, .inl fun x hx i => Nat.le_of_lt (sm x (List.mem_filter.mp hx).1 i), fun x hx i => Nat.le_trans (Nat.le_of_lt (sm x (List.mem_filter.mp hx).1 i)) (C_self c), fun x hx i => Nat.le_trans (Nat.le_of_lt (sm x (List.mem_filter.mp hx).1 i)) (C_self c), fun x hx => Nat.le_of_lt (sm x (List.mem_filter.mp hx).1 c), by
    obtain ⟨x, hx, _, w2, w3⟩ := pr c (Nat.le_refl _) hc
    exact ⟨x, List.mem_filter.mpr ⟨hx, decide_eq_true w2⟩, w3⟩, fun j h1 h2 => by
    obtain ⟨x, hx, w1, w2⟩ := pr j (by omega) h2
    exact ⟨x, List.mem_filter.mpr ⟨hx, by unfold nzB; rw [w1 c (by omega)]; decide⟩, w1, w2⟩⟩
/-- what the law's steps are -/
structure LStC (m : Nat) (G ms : List (List Int)) : Prop where
  len : ∀ x ∈ ms, x.length = m
  ech : Ech 0 (ms.map co)
  l1 : ∀ x ∈ ms, Lat (G.map co) (co x)
  l2 : ∀ x ∈ G, Lat (ms.map co) (co x)
  sm : ∀ x ∈ ms, Sm 45055 x
  pv : ∀ x ∈ ms, ∀ q, Fp (co x) q → (co x q).natAbs ≤ 1000
/-- the columns done so far -/
structure ColsC (m c : Nat) (G found rest : List (List Int)) : Prop where
  up : Upto m c (G.map co) found rest
  sf : ∀ x ∈ found, Sm (aC c) x
  sr : ∀ x ∈ rest, Sm (aC c) x
  pv : ∀ x ∈ found, ∀ q, Fp (co x) q → (co x q).natAbs ≤ 1000
  pris : Pris m c rest
theorem ColsC.start {m : Nat} {G : List (List Int)} (h : ∀ g ∈ G, g.length = m) (hs : ∀ g ∈ G, ∀ i, (co g i).natAbs ≤ 1000) (pr : Pris m 0 G) : ColsC m 0 G [] G :=
  ⟨Upto.start h, fun _ h => absurd h List.not_mem_nil, fun x hx i => Nat.lt_of_le_of_lt (hs x hx i) (by decide), fun _ h => absurd h List.not_mem_nil, pr⟩
theorem ColsC.next {m c : Nat} {G found some rest : List (List Int)} (h : ∀ x ∈ found, Sm (aC c) x) (hp : ∀ x ∈ found, ∀ q, Fp (co x) q → (co x q).natAbs ≤ 1000) (t : TurnC m c (G.map co) found some rest) (h1 : some.length ≤ 1) : ColsC m (c + 1) G (found ++ some) rest := by
  refine ⟨t.col.done h1, fun x hx => ?_, fun x hx i => C_next (t.sr x hx i), fun x hx q f => ?_, t.pris⟩
  · rcases List.mem_append.mp hx with z | z
    · exact (h x z).up (aC_up c (c + 1) (Nat.le_succ _))
    · exact fun i => C_next (t.ss x z i)
  · rcases List.mem_append.mp hx with z | z
    · exact hp x z q f
    · have := f.uniq (t.col.sf x z)
      subst this
      obtain ⟨y, hy, w⟩ := t.lo
      obtain ⟨a, rfl⟩ : ∃ a, some = [a] := by
        match some, h1, z with
        | [a], _, _ => exact ⟨a, rfl⟩
      rw [List.mem_singleton.mp z, ← List.mem_singleton.mp hy]
      exact w
theorem ColsC.done {m : Nat} {G found rest : List (List Int)} (h : ColsC m m G found rest) (hm : m ≤ 6) : LStC m G found :=
  ⟨fun x hx => h.up.len x (List.mem_append_left _ hx), h.up.ech, fun x hx => h.up.l1 x (List.mem_append_left _ hx), fun g hg => h.up.all _ (List.mem_map_of_mem hg), fun x hx => (h.sf x hx).up (aC6 hm), h.pv⟩
end El
/-! Steps are told by their mixtures; how many there are. -/
namespace El
theorem ech_eq : ∀ {n n' : Nat} {A B : List Vc}, Ech n A → Ech n' B → (∀ x, x ∈ A ↔ x ∈ B) → A = B
  | _, _, [], [], _, _, _ => rfl
  | _, _, [], b :: B, _, _, h => absurd ((h b).mpr List.mem_cons_self) List.not_mem_nil
  | _, _, a :: A, [], _, _, h => absurd ((h a).mp List.mem_cons_self) List.not_mem_nil
  | _, _, a :: A, b :: B, hA, hB, h => by
    cases hA with
    | @cons _ q _ _ fa la ea =>
    cases hB with
    | @cons _ p _ _ fb lb eb =>
    have ab : a = b := by
      rcases List.mem_cons.mp ((h a).mp List.mem_cons_self) with z | z
      · exact z
      · obtain ⟨p1, f1, l1⟩ := eb.has a z
        have e1 := fa.uniq f1
        rcases List.mem_cons.mp ((h b).mpr List.mem_cons_self) with y | y
        · exact y.symm
        · obtain ⟨p2, f2, l2⟩ := ea.has b y
          have e2 := fb.uniq f2
          omega
    subst ab
    have eq := fa.uniq fb
    subst eq
    have no : ∀ {L : List Vc}, Ech (q + 1) L → a ∉ L := fun e z => by
      obtain ⟨p1, f1, l1⟩ := e.has a z
      have := fa.uniq f1
      omega
    rw [ech_eq ea eb fun x => ⟨fun hx => (List.mem_cons.mp ((h x).mp (List.mem_cons_of_mem _ hx))).resolve_left fun z => no ea (z ▸ hx), fun hx => (List.mem_cons.mp ((h x).mpr (List.mem_cons_of_mem _ hx))).resolve_left fun z => no eb (z ▸ hx)⟩]
theorem ech_len : ∀ {n n' : Nat} {A B : List Vc}, Ech n A → Ech n' B → (∀ q, (∃ x ∈ A, Fp x q) ↔ ∃ x ∈ B, Fp x q) → A.length = B.length
  | _, _, [], [], _, _, _ => rfl
  | _, _, [], b :: B, _, hB, h => by
    obtain ⟨p, f, _⟩ := hB.has b List.mem_cons_self
    obtain ⟨x, hx, _⟩ := (h p).mpr ⟨b, List.mem_cons_self, f⟩
    exact absurd hx List.not_mem_nil
  | _, _, a :: A, [], hA, _, h => by
    obtain ⟨p, f, _⟩ := hA.has a List.mem_cons_self
    obtain ⟨x, hx, _⟩ := (h p).mp ⟨a, List.mem_cons_self, f⟩
    exact absurd hx List.not_mem_nil
  | _, _, a :: A, b :: B, hA, hB, h => by
    cases hA with
    | @cons _ q _ _ fa la ea =>
    cases hB with
    | @cons _ p _ _ fb lb eb =>
    have eq : q = p := by
      obtain ⟨x, hx, fx⟩ := (h q).mp ⟨a, List.mem_cons_self, fa⟩
      obtain ⟨y, hy, fy⟩ := (h p).mpr ⟨b, List.mem_cons_self, fb⟩
      have l1 : p ≤ q := by
        rcases List.mem_cons.mp hx with z | z
        · subst z; exact Nat.le_of_eq (fb.uniq fx)
        · obtain ⟨p1, f1, l1⟩ := eb.has x z
          have := f1.uniq fx
          omega
      have l2 : q ≤ p := by
        rcases List.mem_cons.mp hy with z | z
        · subst z; exact Nat.le_of_eq (fa.uniq fy)
        · obtain ⟨p1, f1, l1⟩ := ea.has y z
          have := f1.uniq fy
          omega
      omega
    subst eq
    have ih := ech_len ea eb fun r => by
      constructor
      · rintro ⟨x, hx, fx⟩
        obtain ⟨p1, f1, l1⟩ := ea.has x hx
        have e1 := f1.uniq fx
        obtain ⟨y, hy, fy⟩ := (h r).mp ⟨x, List.mem_cons_of_mem _ hx, fx⟩
        rcases List.mem_cons.mp hy with z | z
        · subst z
          have := fb.uniq fy
          omega
        · exact ⟨y, z, fy⟩
      · rintro ⟨x, hx, fx⟩
        obtain ⟨p1, f1, l1⟩ := eb.has x hx
        have e1 := f1.uniq fx
        obtain ⟨y, hy, fy⟩ := (h r).mpr ⟨x, List.mem_cons_of_mem _ hx, fx⟩
        rcases List.mem_cons.mp hy with z | z
        · subst z
          have := fa.uniq fy
          omega
        · exact ⟨y, z, fy⟩
    rw [List.length_cons, List.length_cons, ih]
/-- steps of mixtures of the same, some whole times in: as many -/
theorem ech_rank {n n' : Nat} {A B : List Vc} (hA : Ech n A) (hB : Ech n' B) (h1 : ∀ x ∈ A, ∃ D : Int, D ≠ 0 ∧ Lat B (fun i => D * x i)) (h2 : ∀ x ∈ B, ∃ D : Int, D ≠ 0 ∧ Lat A (fun i => D * x i)) : A.length = B.length :=
  ech_len hA hB fun q => ⟨fun ⟨x, hx, fx⟩ => by
    obtain ⟨D, hD, hl⟩ := h1 x hx
    obtain ⟨s, hs, fs, _⟩ := hB.fp hl (fx.mul hD)
    exact ⟨s, hs, fs⟩, fun ⟨x, hx, fx⟩ => by
    obtain ⟨D, hD, hl⟩ := h2 x hx
    obtain ⟨s, hs, fs, _⟩ := hA.fp hl (fx.mul hD)
    exact ⟨s, hs, fs⟩⟩
theorem Hnf.redAt {m : Nat} {G ms : List (List Int)} (h : Hnf m G ms) {x y : List Int} (hx : x ∈ ms) (hy : y ∈ ms) {q p : Nat} (fx : Fp (co x) q) (fy : Fp (co y) p) (l : q < p) : 0 ≤ co x p ∧ co x p < co y p := by
  obtain ⟨a, ha, rfl⟩ := List.mem_iff_getElem.mp hx
  obtain ⟨b, hb, rfl⟩ := List.mem_iff_getElem.mp hy
  rcases Nat.lt_trichotomy a b with c | c | c
  · exact List.pairwise_iff_getElem.mp h.red a b ha hb c p fy
  · subst c
    have := fx.uniq fy
    omega
  · have ed : ms.map co = (ms.take a).map co ++ co ms[a] :: (ms.drop (a + 1)).map co := by
      rw [← List.map_cons, ← List.drop_eq_getElem_cons ha, ← List.map_append, List.take_append_drop]
    have e2 := h.ech
    rw [ed] at e2
    obtain ⟨p', f', l'⟩ := e2.before fx (co ms[b]) (List.mem_map_of_mem (List.mem_iff_getElem.mpr ⟨b, by rw [List.length_take]; omega, by rw [List.getElem_take]⟩))
    have := fy.uniq f'
    omega
/-- the one is among the others -/
theorem Hnf.sub {m : Nat} {G G' ms ms' : List (List Int)} (h : Hnf m G ms) (h' : Hnf m G' ms') (e1 : ∀ x, Lat (G.map co) x → Lat (G'.map co) x) (e2 : ∀ x, Lat (G'.map co) x → Lat (G.map co) x) : ∀ a ∈ ms, a ∈ ms' := fun a ha => by
  have up : ∀ {G ms : List (List Int)}, Hnf m G ms → ∀ x, Lat (G.map co) x → Lat (ms.map co) x := fun h x hx => hx.mono fun g hg => by obtain ⟨y, hy, rfl⟩ := List.mem_map.mp hg; exact h.l2 y hy
  have dn : ∀ {G ms : List (List Int)}, Hnf m G ms → ∀ x, Lat (ms.map co) x → Lat (G.map co) x := fun h x hx => hx.mono fun g hg => by obtain ⟨y, hy, rfl⟩ := List.mem_map.mp hg; exact h.l1 y hy
  obtain ⟨q, fa, _⟩ := h.ech.has (co a) (List.mem_map_of_mem ha)
  have la := dn h _ (.of (List.mem_map_of_mem ha))
  obtain ⟨cb, hcb, fb, dv⟩ := h'.ech.fp (up h' _ (e1 _ la)) fa
  obtain ⟨b, hb, rfl⟩ := List.mem_map.mp hcb
  have lb := dn h' _ (.of (List.mem_map_of_mem hb))
  -- the first parts are the same at each place
  have same : ∀ {s s' : List Int} {p : Nat}, s ∈ ms → s' ∈ ms' → Fp (co s) p → Fp (co s') p → co s p = co s' p := fun {s s' p} hs hs' f f' => by
    obtain ⟨t', ht', ft', d1⟩ := h'.ech.fp (up h' _ (e1 _ (dn h _ (.of (List.mem_map_of_mem hs))))) f
    have z1 := h'.ech.one ht' (List.mem_map_of_mem hs') ft' f'
    obtain ⟨t, ht, ft, d2⟩ := h.ech.fp (up h _ (e2 _ (dn h' _ (.of (List.mem_map_of_mem hs'))))) f'
    have z2 := h.ech.one ht (List.mem_map_of_mem hs) ft f
    rw [z1] at d1
    rw [z2] at d2
    have p1 := h.pos s hs p f
    have p2 := h'.pos s' hs' p f'
    exact Int.le_antisymm (Int.le_of_dvd p2 d2) (Int.le_of_dvd p1 d1)
  have eab : co a = co b := by
    refine funext fun i => ?_
    by_cases c : (takenL a b).any (fun n => n != 0) = true
    · exfalso
      have hl : a.length = b.length := (h.len a ha).trans (h'.len b hb).symm
      have nz : fpL (takenL a b) < (takenL a b).length := by
        by_cases z : fpL (takenL a b) < (takenL a b).length
        · exact z
        · obtain ⟨x, hx, hn⟩ := List.any_eq_true.mp c
          obtain ⟨j, hj, rfl⟩ := List.mem_iff_getElem.mp hx
          have := fpL_all z j
          rw [co_at hj] at this
          rw [this] at hn
          exact absurd hn (by decide)
      have f := fpL_fp nz
      generalize fpL (takenL a b) = p at f nz
      have ld : Lat (ms.map co) (co (takenL a b)) := by
        have z := (up h _ la).sub 1 (up h _ (e2 _ lb))
        have e : (fun i => co a i - co b i * 1) = co (takenL a b) := funext fun i => by rw [co_taken hl]; omega
        rwa [e] at z
      obtain ⟨cs, hcs, fs, d⟩ := h.ech.fp ld f
      obtain ⟨s, hs, rfl⟩ := List.mem_map.mp hcs
      obtain ⟨cs', hcs', fs', _⟩ := h'.ech.fp (up h' _ (e1 _ (dn h _ (.of (List.mem_map_of_mem hs))))) fs
      obtain ⟨s', hs', rfl⟩ := List.mem_map.mp hcs'
      have lt : q < p := by
        rcases Nat.lt_trichotomy p q with z | z | z
        · exact absurd (by rw [co_taken hl, fa.zs p z, fb.zs p z]; rfl) f.nz
        · subst z
          exact absurd (by rw [co_taken hl, same ha hb fa fb]; omega) f.nz
        · exact z
      have r1 := h.redAt ha hs fa fs lt
      have r2 := h'.redAt hb hs' fb fs' lt
      have es := same hs hs' fs fs'
      rw [co_taken hl] at d
      have nzp := f.nz
      rw [co_taken hl] at nzp
      have := Nat.le_of_dvd (Int.natAbs_pos.mpr nzp) (Int.natAbs_dvd_natAbs.mpr d)
      omega
    · have hl : a.length = b.length := (h.len a ha).trans (h'.len b hb).symm
      by_cases hi : i < a.length
      · have z : co (takenL a b) i = 0 := by
          by_cases y : co (takenL a b) i = 0
          · exact y
          · exact absurd (List.any_eq_true.mpr ⟨co (takenL a b) i, co_mem (by rw [taken_len hl]; exact hi), by simpa using y⟩) c
        rw [co_taken hl] at z
        omega
      · rw [co_out (by omega), co_out (by omega)]
  rw [co_ext ((h.len a ha).trans (h'.len b hb).symm) eab]
  exact hb
/-- steps are told by their mixtures -/
theorem Hnf.uniq {m : Nat} {G G' ms ms' : List (List Int)} (h : Hnf m G ms) (h' : Hnf m G' ms') (e1 : ∀ x, Lat (G.map co) x → Lat (G'.map co) x) (e2 : ∀ x, Lat (G'.map co) x → Lat (G.map co) x) : ms = ms' := by
  have e := ech_eq h.ech h'.ech fun x => by
    constructor
    · intro hx
      obtain ⟨y, hy, rfl⟩ := List.mem_map.mp hx
      exact List.mem_map_of_mem (h.sub h' e1 e2 y hy)
    · intro hx
      obtain ⟨y, hy, rfl⟩ := List.mem_map.mp hx
      exact List.mem_map_of_mem (h'.sub h e2 e1 y hy)
  refine List.ext_getElem (by have := congrArg List.length e; rwa [List.length_map, List.length_map] at this) fun i h1 h2 => ?_
  refine co_ext ((h.len _ (List.getElem_mem h1)).trans (h'.len _ (List.getElem_mem h2)).symm) ?_
  have z : (ms.map co)[i]? = (ms'.map co)[i]? := by rw [e]
  rw [List.getElem?_map, List.getElem?_map, List.getElem?_eq_getElem h1, List.getElem?_eq_getElem h2] at z
  exact Option.some.inj z
end El
/-! Determinants: by a column, over a list of rows; what they bound. -/
namespace El
/-- the sum over the rows of a part by what the others come to, with signs in turn -/
def alt (c : Nat) : (List Vc → Int) → List Vc → Int
  | _, [] => 0
  | D, r :: rs => r c * D rs - alt c (fun L => D (r :: L)) rs
def one0 : List Vc → Int
  | [] => 1
  | _ => 0
def det : List Nat → List Vc → Int
  | [] => one0
  | c :: cs => alt c (det cs)
theorem alt_add (c : Nat) : ∀ (L : List Vc) (D E : List Vc → Int) (k : Int), alt c (fun M => D M + k * E M) L = alt c D L + k * alt c E L
  | [], D, E, k => by simp [alt]
  | r :: L, D, E, k => by
    show r c * (D L + k * E L) - alt c (fun M => D (r :: M) + k * E (r :: M)) L = (r c * D L - alt c (fun M => D (r :: M)) L) + k * (r c * E L - alt c (fun M => E (r :: M)) L)
    rw [alt_add c L (fun M => D (r :: M)) (fun M => E (r :: M)) k, Int.mul_add, Int.mul_sub, Int.mul_left_comm k]
    omega
theorem alt_zero (c : Nat) : ∀ (L : List Vc), alt c (fun _ => 0) L = 0
  | [] => rfl
  | r :: L => by show r c * 0 - alt c (fun _ => 0) L = 0; rw [alt_zero c L]; simp
theorem alt_neg (c : Nat) (L : List Vc) (D : List Vc → Int) : alt c (fun M => - D M) L = - alt c D L := by
  have z := alt_add c L (fun _ => 0) D (-1)
  rw [alt_zero] at z
  have e : (fun M => (0 : Int) + -1 * D M) = fun M => - D M := funext fun M => by omega
  rw [e] at z
  omega
/-- two columns change places -/
theorem alt_swap (c c' : Nat) : ∀ (L : List Vc) (D : List Vc → Int), alt c (fun M => alt c' D M) L = - alt c' (fun M => alt c D M) L
  | [], D => by simp [alt]
  | r :: L, D => by
    have e : ∀ a b : Nat, alt a (fun M => alt b D M) (r :: L) = r a * alt b D L - (r b * alt a D L - alt a (fun M => alt b (fun N => D (r :: N)) M) L) := fun a b => by
      show r a * alt b D L - alt a (fun M => r b * D M - alt b (fun N => D (r :: N)) M) L = _
      have z := alt_add a L (fun M => - alt b (fun N => D (r :: N)) M) D (r b)
      have f : (fun M => - alt b (fun N => D (r :: N)) M + r b * D M) = fun M => r b * D M - alt b (fun N => D (r :: N)) M := funext fun M => by omega
      have y : alt a (fun M => - alt b (fun N => D (r :: N)) M) L = - alt a (fun M => alt b (fun N => D (r :: N)) M) L := alt_neg a L fun M => alt b (fun N => D (r :: N)) M
      rw [f, y] at z
      rw [z]; omega
    rw [e, e, alt_swap c c' L fun N => D (r :: N)]
    omega
theorem alt_twice (c : Nat) (L : List Vc) (D : List Vc → Int) : alt c (fun M => alt c D M) L = 0 := by
  have := alt_swap c c L D
  omega
/-- a column stands twice -/
theorem det_dup {j : Nat} : ∀ {cs : List Nat}, j ∈ cs → ∀ L, alt j (det cs) L = 0
  | c :: cs, h, L => by
    by_cases e : j = c
    · subst e; exact alt_twice j L (det cs)
    · have hj := (List.mem_cons.mp h).resolve_left e
      have z := alt_swap j c L (det cs)
      have f : (fun M => alt j (det cs) M) = fun _ => 0 := funext fun M => det_dup hj M
      rw [f, alt_zero] at z
      have : alt j (det (c :: cs)) L = - 0 := z
      omega
/-- linear in each row -/
def Lin (D : List Vc → Int) : Prop := ∀ (pre post : List Vc) (x y : Vc) (k : Int), D (pre ++ (fun i => x i + k * y i) :: post) = D (pre ++ x :: post) + k * D (pre ++ y :: post)
theorem Lin.alt {c : Nat} : ∀ {D : List Vc → Int}, Lin D → Lin (alt c D) := fun {D} h pre => by
  induction pre generalizing D with
  | nil =>
    intro post x y k
    show (x c + k * y c) * D post - El.alt c (fun L => D ((fun i => x i + k * y i) :: L)) post = (x c * D post - El.alt c (fun L => D (x :: L)) post) + k * (y c * D post - El.alt c (fun L => D (y :: L)) post)
    have e : (fun L => D ((fun i => x i + k * y i) :: L)) = fun L => D (x :: L) + k * D (y :: L) := funext fun L => h [] L x y k
    rw [e, alt_add, Int.add_mul, Int.mul_sub, Int.mul_assoc]
    omega
  | cons r pre ih =>
    intro post x y k
    show r c * D (pre ++ (fun i => x i + k * y i) :: post) - El.alt c (fun L => D (r :: L)) (pre ++ (fun i => x i + k * y i) :: post) = (r c * D (pre ++ x :: post) - El.alt c (fun L => D (r :: L)) (pre ++ x :: post)) + k * (r c * D (pre ++ y :: post) - El.alt c (fun L => D (r :: L)) (pre ++ y :: post))
    rw [h pre post x y k, ih (D := fun L => D (r :: L)) (fun p q u v j => h (r :: p) q u v j) post x y k, Int.mul_add, Int.mul_sub, Int.mul_left_comm k]
    omega
theorem Lin.one0 : Lin one0 := fun pre post x y k => by
  cases pre <;> simp [El.one0]
theorem det_lin : ∀ cs : List Nat, Lin (det cs)
  | [] => Lin.one0
  | c :: cs => (det_lin cs).alt
theorem Lin.zero {D : List Vc → Int} (h : Lin D) (pre post : List Vc) : D (pre ++ (fun _ => 0) :: post) = 0 := by
  have z := h pre post (fun _ => 0) (fun _ => 0) (-1)
  have e : (fun i : Nat => (fun _ : Nat => (0 : Int)) i + -1 * (fun _ : Nat => (0 : Int)) i) = fun _ => 0 := funext fun i => by simp
  rw [e] at z
  omega
/-- nought with all of G: nought with its mixtures -/
theorem Lin.lat {D : List Vc → Int} (h : Lin D) {G : List Vc} {pre post : List Vc} (hG : ∀ g ∈ G, D (pre ++ g :: post) = 0) {x : Vc} (hx : Lat G x) : D (pre ++ x :: post) = 0 := by
  induction hx with
  | zero => exact h.zero pre post
  | @add y g k _ hg ih => rw [h pre post y g k, ih, hG g hg]; simp
theorem Lin.some {D : List Vc → Int} (h : Lin D) {G : List Vc} : ∀ (hs pre : List Vc), (∀ x ∈ hs, Lat G x) → D (pre ++ hs) ≠ 0 → ∃ gs, gs.length = hs.length ∧ (∀ g ∈ gs, g ∈ G) ∧ D (pre ++ gs) ≠ 0
  | [], pre, _, z => ⟨[], rfl, fun _ h => absurd h List.not_mem_nil, z⟩
  | x :: hs, pre, hl, z => by
    have hx := hl x List.mem_cons_self
    obtain ⟨g, hg, hz⟩ : ∃ g ∈ G, D (pre ++ g :: hs) ≠ 0 := Classical.byContradiction fun n => z (h.lat (fun g hg => Classical.byContradiction fun w => n ⟨g, hg, w⟩) hx)
    have e : pre ++ g :: hs = (pre ++ [g]) ++ hs := by simp
    rw [e] at hz
    obtain ⟨gs, h1, h2, h3⟩ := h.some hs (pre ++ [g]) (fun y hy => hl y (List.mem_cons_of_mem _ hy)) hz
    refine ⟨g :: gs, by rw [List.length_cons, h1, List.length_cons], fun y hy => ?_, by rw [List.append_assoc] at h3; exact h3⟩
    rcases List.mem_cons.mp hy with e | e
    · rw [e]; exact hg
    · exact h2 y e
/-- two rows change places -/
def Alt (D : List Vc → Int) : Prop := ∀ (pre post : List Vc) (x y : Vc), D (pre ++ x :: y :: post) = - D (pre ++ y :: x :: post)
theorem Alt.alt {c : Nat} {D : List Vc → Int} (h : Alt D) : Alt (alt c D) := fun pre => by
  induction pre generalizing D with
  | nil =>
    intro post x y
    show x c * D (y :: post) - (y c * D (x :: post) - El.alt c (fun L => D (x :: y :: L)) post) = -(y c * D (x :: post) - (x c * D (y :: post) - El.alt c (fun L => D (y :: x :: L)) post))
    have e : (fun L => D (x :: y :: L)) = fun L => - D (y :: x :: L) := funext fun L => h [] L x y
    rw [e, alt_neg]; omega
  | cons r pre ih =>
    intro post x y
    show r c * D (pre ++ x :: y :: post) - El.alt c (fun L => D (r :: L)) (pre ++ x :: y :: post) = -(r c * D (pre ++ y :: x :: post) - El.alt c (fun L => D (r :: L)) (pre ++ y :: x :: post))
    rw [h pre post x y, ih (D := fun L => D (r :: L)) (fun p q u v => h (r :: p) q u v) post x y, Int.mul_neg]
    omega
theorem Alt.one0 : Alt one0 := fun pre post x y => by cases pre <;> simp [El.one0]
theorem det_alt : ∀ cs : List Nat, Alt (det cs)
  | [] => Alt.one0
  | c :: cs => (det_alt cs).alt
theorem Alt.dup {D : List Vc → Int} (h : Alt D) {x : Vc} : ∀ (mid pre post : List Vc), D (pre ++ x :: (mid ++ x :: post)) = 0
  | [], pre, post => by have := h pre post x x; simp only [List.nil_append]; omega
  | y :: mid, pre, post => by
    rw [List.cons_append, h pre (mid ++ x :: post) x y]
    have z := h.dup (x := x) mid (pre ++ [y]) post
    have e : pre ++ y :: x :: (mid ++ x :: post) = (pre ++ [y]) ++ x :: (mid ++ x :: post) := by simp
    rw [e, z]; rfl
/-- of rows with a determinant, none stands twice -/
theorem Alt.nodup {D : List Vc → Int} (h : Alt D) : ∀ (L pre : List Vc), D (pre ++ L) ≠ 0 → L.Nodup
  | [], _, _ => .nil
  | x :: L, pre, z => by
    refine List.nodup_cons.mpr ⟨fun hx => ?_, ?_⟩
    · obtain ⟨s, t, rfl⟩ := List.append_of_mem hx
      exact z (h.dup s pre t)
    · refine h.nodup L (pre ++ [x]) ?_
      rw [List.append_assoc]; exact z
/-! ### how great -/
theorem alt_le {c B b : Nat} : ∀ (L : List Vc) (D : List Vc → Int), (∀ x ∈ L, (x c).natAbs ≤ B) → (∀ M, (∀ x ∈ M, x ∈ L) → M.length + 1 = L.length → (D M).natAbs ≤ b) → (alt c D L).natAbs ≤ L.length * (B * b)
  | [], _, _, _ => by simp [alt]
  | r :: L, D, h1, h2 => by
    have b1 : (r c * D L).natAbs ≤ B * b := by
      rw [Int.natAbs_mul]
      exact Nat.mul_le_mul (h1 r List.mem_cons_self) (h2 L (fun x hx => List.mem_cons_of_mem _ hx) rfl)
    have b2 := alt_le (c := c) (B := B) (b := b) L (fun M => D (r :: M)) (fun x hx => h1 x (List.mem_cons_of_mem _ hx)) fun M m1 m2 => h2 (r :: M) (fun x hx => by
      rcases List.mem_cons.mp hx with e | e
      · rw [e]; exact List.mem_cons_self
      · exact List.mem_cons_of_mem _ (m1 x e)) (by rw [List.length_cons, List.length_cons, m2])
    show (r c * D L - alt c (fun M => D (r :: M)) L).natAbs ≤ (L.length + 1) * (B * b)
    rw [Nat.succ_mul]
    omega
def fac : Nat → Nat
  | 0 => 1
  | n + 1 => (n + 1) * fac n
theorem fac_up : ∀ {n m : Nat}, n ≤ m → fac n ≤ fac m := fun {n m} h => by
  induction h with
  | refl => exact Nat.le_refl _
  | @step m _ ih => exact Nat.le_trans ih (Nat.le_mul_of_pos_left _ (Nat.succ_pos _))
theorem det_le {B : Nat} : ∀ (cs : List Nat) (L : List Vc), L.length = cs.length → (∀ x ∈ L, ∀ c ∈ cs, (x c).natAbs ≤ B) → (det cs L).natAbs ≤ fac cs.length * B ^ cs.length
  | [], L, h, _ => by
    have : L = [] := List.length_eq_zero_iff.mp h
    subst this
    exact Nat.le_of_eq (by simp [det, one0, fac])
  | c :: cs, L, h, hb => by
    have z := alt_le (c := c) (B := B) (b := fac cs.length * B ^ cs.length) L (det cs) (fun x hx => hb x hx c List.mem_cons_self) fun M m1 m2 => det_le cs M (by rw [h, List.length_cons] at m2; omega) fun x hx d hd => hb x (m1 x hx) d (List.mem_cons_of_mem _ hd)
    refine Nat.le_trans z ?_
    rw [h, List.length_cons]
    show (cs.length + 1) * (B * (fac cs.length * B ^ cs.length)) ≤ (cs.length + 1) * fac cs.length * B ^ (cs.length + 1)
    rw [Nat.pow_succ, Nat.mul_left_comm B, ← Nat.mul_assoc (cs.length + 1), Nat.mul_comm B]
    exact Nat.le_refl _
/-- one row with parts of its own -/
theorem det_le1 {B P : Nat} (y : Vc) : ∀ (cs : List Nat) (pre post : List Vc), (pre ++ y :: post).length = cs.length → (∀ x ∈ pre ++ post, ∀ c ∈ cs, (x c).natAbs ≤ B) → (∀ c ∈ cs, (y c).natAbs ≤ P) → (det cs (pre ++ y :: post)).natAbs ≤ fac cs.length * (P * B ^ (cs.length - 1))
  | [], pre, post, h, _, _ => by simp at h
  | c :: cs, pre, post, h, hb, hp => by
    have hl : pre.length + post.length = cs.length := by
      rw [List.length_append, List.length_cons, List.length_cons] at h; omega
    have key : ∀ (pre' : List Vc) (D : List Vc → Int), (∀ x ∈ pre', (x c).natAbs ≤ B) → (∀ x ∈ post, (x c).natAbs ≤ B) → (D (pre' ++ post)).natAbs ≤ fac cs.length * B ^ cs.length → (∀ M N, (∀ x ∈ M ++ N, x ∈ pre' ++ post) → M.length + N.length + 1 = pre'.length + post.length → (D (M ++ y :: N)).natAbs ≤ fac cs.length * (P * B ^ (cs.length - 1))) →
        (alt c D (pre' ++ y :: post)).natAbs ≤ P * (fac cs.length * B ^ cs.length) + (pre'.length + post.length) * (B * (fac cs.length * (P * B ^ (cs.length - 1)))) := fun pre' => by
      induction pre' with
      | nil =>
        intro D h1 h2 h3 h4
        show (y c * D post - alt c (fun M => D (y :: M)) post).natAbs ≤ _
        have b1 : (y c * D post).natAbs ≤ P * (fac cs.length * B ^ cs.length) := by
          rw [Int.natAbs_mul]; exact Nat.mul_le_mul (hp c List.mem_cons_self) h3
        have b2 := alt_le (c := c) (B := B) (b := fac cs.length * (P * B ^ (cs.length - 1))) post (fun M => D (y :: M)) h2 fun M m1 m2 => h4 [] M (fun x hx => m1 x (by simpa using hx)) (by simpa using m2)
        simp only [List.length_nil, Nat.zero_add]
        omega
      | cons r pre' ih =>
        intro D h1 h2 h3 h4
        show (r c * D (pre' ++ y :: post) - alt c (fun M => D (r :: M)) (pre' ++ y :: post)).natAbs ≤ _
        have b1 : (r c * D (pre' ++ y :: post)).natAbs ≤ B * (fac cs.length * (P * B ^ (cs.length - 1))) := by
          rw [Int.natAbs_mul]
          refine Nat.mul_le_mul (h1 r List.mem_cons_self) (h4 pre' post (fun x hx => List.mem_cons_of_mem _ hx) ?_)
          rw [List.length_cons]; omega
        have b2 := ih (fun M => D (r :: M)) (fun x hx => h1 x (List.mem_cons_of_mem _ hx)) h2 h3 fun M N m1 m2 => h4 (r :: M) N (fun x hx => by
          rw [List.cons_append] at hx
          rcases List.mem_cons.mp hx with e | e
          · rw [e]; exact List.mem_cons_self
          · exact List.mem_cons_of_mem _ (m1 x e)) (by rw [List.length_cons, List.length_cons]; omega)
        have e1 : ((r :: pre').length + post.length) * (B * (fac cs.length * (P * B ^ (cs.length - 1)))) = (pre'.length + post.length) * (B * (fac cs.length * (P * B ^ (cs.length - 1)))) + B * (fac cs.length * (P * B ^ (cs.length - 1))) := by
          rw [← Nat.succ_mul, List.length_cons]; congr 1; omega
        rw [e1]
        omega
    have h3 : (det cs (pre ++ post)).natAbs ≤ fac cs.length * B ^ cs.length := det_le cs _ (by rw [List.length_append]; exact hl) fun x hx d hd => hb x hx d (List.mem_cons_of_mem _ hd)
    have z := key pre (det cs) (fun x hx => hb x (List.mem_append_left _ hx) c List.mem_cons_self) (fun x hx => hb x (List.mem_append_right _ hx) c List.mem_cons_self) h3 fun M N m1 m2 => by
      refine det_le1 y cs M N (by rw [List.length_append, List.length_cons]; omega) (fun x hx d hd => hb x (m1 x hx) d (List.mem_cons_of_mem _ hd)) fun d hd => hp d (List.mem_cons_of_mem _ hd)
    refine Nat.le_trans z ?_
    rw [hl]
    show _ ≤ (cs.length + 1) * fac cs.length * (P * B ^ (cs.length + 1 - 1))
    rw [Nat.add_sub_cancel, Nat.succ_mul, Nat.add_mul]
    cases hn : cs.length with
    | zero => simp; rw [Nat.mul_comm]; exact Nat.le_refl _
    | succ n =>
      rw [Nat.add_sub_cancel, Nat.add_comm]
      refine Nat.add_le_add ?_ ?_
      · rw [Nat.pow_succ, Nat.mul_assoc, Nat.mul_left_comm B, Nat.mul_left_comm B, Nat.mul_comm B]
        exact Nat.le_refl _
      · rw [Nat.mul_left_comm]; exact Nat.le_refl _
end El
/-! What determinants bound: the first parts of steps, and all their parts. -/
namespace El
theorem exists_fp {x : Vc} : ∀ {i : Nat}, x i ≠ 0 → ∃ q, q ≤ i ∧ Fp x q := fun {i} => by
  induction i using Nat.strongRecOn with
  | _ i ih =>
    intro h
    by_cases z : ∀ j < i, x j = 0
    · exact ⟨i, Nat.le_refl _, h, z⟩
    · simp only [Classical.not_forall] at z
      obtain ⟨j, hj, n⟩ := z
      obtain ⟨q, hq, f⟩ := ih j hj n
      exact ⟨q, by omega, f⟩
theorem alt_nil {c : Nat} : ∀ {L : List Vc} {D : List Vc → Int}, (∀ r ∈ L, r c = 0) → alt c D L = 0
  | [], _, _ => rfl
  | r :: L, D, h => by
    show r c * D L - alt c (fun M => D (r :: M)) L = 0
    rw [h r List.mem_cons_self, alt_nil fun s hs => h s (List.mem_cons_of_mem _ hs)]; simp
theorem alt_lat : ∀ (L : List Vc) (D : List Vc → Int), Lat L (fun c => alt c D L)
  | [], D => .zero
  | r :: L, D => by
    have z := ((alt_lat L fun M => D (r :: M)).sub_of fun g hg => List.mem_cons_of_mem r hg)
    have y := ((Lat.of (List.mem_cons_self (a := r) (l := L))).mul (D L)).sub 1 z
    have e : (fun i => D L * r i - (fun c => alt c (fun M => D (r :: M)) L) i * 1) = fun c => alt c D (r :: L) := funext fun c => by
      show D L * r c - alt c (fun M => D (r :: M)) L * 1 = r c * D L - alt c (fun M => D (r :: M)) L
      rw [Int.mul_one, Int.mul_comm]
    rwa [e] at y
/-- the places of steps -/
theorem Ech.places : ∀ {n : Nat} {ss : List Vc}, Ech n ss → ∃ ps : List Nat, ps.length = ss.length ∧ (∀ p ∈ ps, ∃ x ∈ ss, Fp x p) ∧ (∀ x ∈ ss, ∃ p ∈ ps, Fp x p) ∧ det ps ss ≠ 0 ∧
    ∀ (s : Vc) (q : Nat), (∀ i < q, s i = 0) → s q ≠ 0 → (∀ p ∈ ps, p < q) → det (q :: ps) (ss ++ [s]) ≠ 0
  | _, [], _ => ⟨[], rfl, fun _ h => absurd h List.not_mem_nil, fun _ h => absurd h List.not_mem_nil, by decide, fun s q _ h _ => by
      show s q * 1 - 0 ≠ 0
      omega⟩
  | _, x :: ss, h => by
    cases h with
    | @cons _ p _ _ f l e =>
    obtain ⟨ps, h1, h2, h3, h4, h5⟩ := Ech.places e
    refine ⟨p :: ps, by rw [List.length_cons, h1, List.length_cons], fun r hr => ?_, fun y hy => ?_, ?_, fun s q hz hq hp => ?_⟩
    · rcases List.mem_cons.mp hr with c | c
      · exact ⟨x, List.mem_cons_self, by rw [c]; exact f⟩
      · obtain ⟨y, hy, fy⟩ := h2 r c
        exact ⟨y, List.mem_cons_of_mem _ hy, fy⟩
    · rcases List.mem_cons.mp hy with c | c
      · exact ⟨p, List.mem_cons_self, by rw [c]; exact f⟩
      · obtain ⟨r, hr, fr⟩ := h3 y c
        exact ⟨r, List.mem_cons_of_mem _ hr, fr⟩
    · show x p * det ps ss - alt p (fun M => det ps (x :: M)) ss ≠ 0
      rw [alt_nil fun r hr => e.zero r hr p (Nat.lt_succ_self _), Int.sub_zero]
      exact fun z => (Int.mul_eq_zero.mp z).elim f.nz h4
    · have sw := alt_swap q p (x :: (ss ++ [s])) (det ps)
      have e1 : alt p (fun M => alt q (det ps) M) (x :: (ss ++ [s])) = x p * det (q :: ps) (ss ++ [s]) := by
        show x p * det (q :: ps) (ss ++ [s]) - alt p (fun M => alt q (det ps) (x :: M)) (ss ++ [s]) = _
        rw [alt_nil (L := ss ++ [s]) fun r hr => ?_, Int.sub_zero]
        rcases List.mem_append.mp hr with c | c
        · exact e.zero r c p (Nat.lt_succ_self _)
        · rw [List.mem_singleton.mp c]; exact hz p (hp p List.mem_cons_self)
      have n := h5 s q hz hq fun r hr => hp r (List.mem_cons_of_mem _ hr)
      show alt q (fun M => alt p (det ps) M) (x :: (ss ++ [s])) ≠ 0
      rw [sw, e1]
      intro z
      have z2 : x p * det (q :: ps) (ss ++ [s]) = 0 := by omega
      exact (Int.mul_eq_zero.mp z2).elim f.nz n
theorem Ech.front : ∀ {n : Nat} {A B : List Vc}, Ech n (A ++ B) → Ech n A
  | _, [], _, _ => .nil
  | _, a :: A, B, h => by
    cases h with
    | cons f l e => exact .cons f l (Ech.front e)
theorem nodup_le {α : Type} : ∀ {l l' : List α}, l.Nodup → (∀ x ∈ l, x ∈ l') → l.length ≤ l'.length
  | [], _, _, _ => Nat.zero_le _
  | x :: l, l', h, s => by
    obtain ⟨h1, h2⟩ := List.nodup_cons.mp h
    obtain ⟨a, b, rfl⟩ := List.append_of_mem (s x List.mem_cons_self)
    have z := nodup_le (l' := a ++ b) h2 fun y hy => by
      rcases List.mem_append.mp (s y (List.mem_cons_of_mem _ hy)) with c | c
      · exact List.mem_append_left _ c
      · rcases List.mem_cons.mp c with d | d
        · rw [d] at hy; exact absurd hy h1
        · exact List.mem_append_right _ d
    rw [List.length_append] at z
    rw [List.length_append, List.length_cons, List.length_cons]
    omega
/-- some whole multiples of rows among the mixtures: a determinant of rows themselves -/
theorem Lin.someQ {D : List Vc → Int} (h : Lin D) {G : List Vc} : ∀ (hs pre : List Vc), (∀ s ∈ hs, ∃ E : Int, E ≠ 0 ∧ Lat G (fun i => E * s i)) → D (pre ++ hs) ≠ 0 → ∃ gs, gs.length = hs.length ∧ (∀ g ∈ gs, g ∈ G) ∧ D (pre ++ gs) ≠ 0
  | [], pre, _, z => ⟨[], rfl, fun _ h => absurd h List.not_mem_nil, z⟩
  | s :: ss, pre, hs, z => by
    obtain ⟨E, hE, hl⟩ := hs s List.mem_cons_self
    have nz : D (pre ++ (fun i => E * s i) :: ss) ≠ 0 := by
      have y := h pre ss (fun _ => 0) s E
      have e : (fun i : Nat => (fun _ : Nat => (0 : Int)) i + E * s i) = fun i => E * s i := funext fun i => by simp
      rw [e, h.zero] at y
      rw [y, Int.zero_add]
      exact fun w => (Int.mul_eq_zero.mp w).elim hE z
    obtain ⟨g, hg, hz⟩ : ∃ g ∈ G, D (pre ++ g :: ss) ≠ 0 := Classical.byContradiction fun n => nz (h.lat (fun g hg => Classical.byContradiction fun w => n ⟨g, hg, w⟩) hl)
    have e : pre ++ g :: ss = (pre ++ [g]) ++ ss := by simp
    rw [e] at hz
    obtain ⟨gs, k1, k2, k3⟩ := h.someQ ss (pre ++ [g]) (fun y hy => hs y (List.mem_cons_of_mem _ hy)) hz
    refine ⟨g :: gs, by rw [List.length_cons, k1, List.length_cons], fun y hy => ?_, by rw [List.append_assoc] at k3; exact k3⟩
    rcases List.mem_cons.mp hy with c | c
    · rw [c]; exact hg
    · exact k2 y c
/-- rows of which each has a place at which the later ones have 0 -/
inductive Tri : List Nat → List Vc → Prop
  | nil : Tri [] []
  | cons {p : Nat} {ps : List Nat} {x : Vc} {xs : List Vc} : x p ≠ 0 → (∀ y ∈ xs, y p = 0) → Tri ps xs → Tri (p :: ps) (x :: xs)
theorem Tri.det : ∀ {ps : List Nat} {xs : List Vc}, Tri ps xs → det ps xs ≠ 0
  | _, _, .nil => by decide
  | _, _, .cons (p := p) (ps := ps) (x := x) (xs := xs) h1 h2 t => by
    show x p * El.det ps xs - alt p (fun M => El.det ps (x :: M)) xs ≠ 0
    rw [alt_nil h2, Int.sub_zero]
    exact fun z => (Int.mul_eq_zero.mp z).elim h1 t.det
/-- they are at most as many as the rows that they are mixtures of -/
theorem Tri.le {ps : List Nat} {G ss : List Vc} (t : Tri ps ss) (h : ∀ s ∈ ss, ∃ D : Int, D ≠ 0 ∧ Lat G (fun i => D * s i)) : ss.length ≤ G.length := by
  obtain ⟨gs, k1, k2, k3⟩ := (det_lin ps).someQ ss [] h t.det
  rw [← k1]
  exact nodup_le ((det_alt ps).nodup gs [] k3) k2
theorem Ech.tri : ∀ {n : Nat} {ss : List Vc}, Ech n ss → ∃ ps, Tri ps ss ∧ (∀ p ∈ ps, ∃ x ∈ ss, Fp x p) ∧ ∀ x ∈ ss, ∃ p ∈ ps, Fp x p
  | _, [], _ => ⟨[], .nil, fun _ h => absurd h List.not_mem_nil, fun _ h => absurd h List.not_mem_nil⟩
  | _, x :: ss, h => by
    cases h with
    | @cons _ p _ _ f l e =>
    obtain ⟨ps, t, h2, h3⟩ := e.tri
    refine ⟨p :: ps, .cons f.nz (fun y hy => e.zero y hy p (Nat.lt_succ_self _)) t, fun r hr => ?_, fun y hy => ?_⟩
    · rcases List.mem_cons.mp hr with c | c
      · exact ⟨x, List.mem_cons_self, by rw [c]; exact f⟩
      · obtain ⟨y, hy, fy⟩ := h2 r c
        exact ⟨y, List.mem_cons_of_mem _ hy, fy⟩
    · rcases List.mem_cons.mp hy with c | c
      · exact ⟨p, List.mem_cons_self, by rw [c]; exact f⟩
      · obtain ⟨r, hr, fr⟩ := h3 y c
        exact ⟨r, List.mem_cons_of_mem _ hr, fr⟩
theorem Tri.len : ∀ {ps : List Nat} {xs : List Vc}, Tri ps xs → ps.length = xs.length
  | _, _, .nil => rfl
  | _, _, .cons _ _ t => by rw [List.length_cons, List.length_cons, t.len]
/-- steps of mixtures are at most as many as the rows -/
theorem Ech.le {n : Nat} {G ss : List Vc} (e : Ech n ss) (h : ∀ s ∈ ss, ∃ D : Int, D ≠ 0 ∧ Lat G (fun i => D * s i)) : ss.length ≤ G.length := by
  obtain ⟨ps, t, _⟩ := e.tri
  exact t.le h
theorem pow_up {B a b : Nat} (h : 1 ≤ B) (l : a ≤ b) : B ^ a ≤ B ^ b := Nat.pow_le_pow_right h l
/-- the first part of a step is below the determinants -/
theorem pivot_det {G made : List Vc} {n B : Nat} (hn : made.length ≤ n) (b1 : 1 ≤ B) (hB : ∀ g ∈ G, ∀ i, (g i).natAbs ≤ B) (em : Ech 0 made) (h1 : ∀ s ∈ made, ∃ D : Int, D ≠ 0 ∧ Lat G (fun i => D * s i)) (h2 : ∀ g ∈ G, Lat made g)
    {s : Vc} {q : Nat} (hs : s ∈ made) (f : Fp s q) : (s q).natAbs ≤ fac n * B ^ n := by
  obtain ⟨pre, post, rfl⟩ := List.append_of_mem hs
  obtain ⟨ps, k1, k2, k3, k4, k5⟩ := em.front.places
  have bel : ∀ p ∈ ps, p < q := fun p hp => by
    obtain ⟨x, hx, fx⟩ := k2 p hp
    obtain ⟨p', f', l⟩ := em.before f x hx
    have := fx.uniq f'
    omega
  have nz := k5 s q f.zs f.nz bel
  obtain ⟨gs, g1, g2, g3⟩ := (det_lin (q :: ps)).someQ (G := G) (pre ++ [s]) [] (fun x hx => h1 x (by
    rcases List.mem_append.mp hx with c | c
    · exact List.mem_append_left _ c
    · rw [List.mem_singleton.mp c]; exact hs)) nz
  have lx : Lat G (fun j => det (j :: ps) gs) := (alt_lat gs (det ps)).sub_of g2
  have lm : Lat (pre ++ s :: post) (fun j => det (j :: ps) gs) := lx.mono h2
  have fx : Fp (fun j => det (j :: ps) gs) q := by
    refine ⟨g3, fun i hi => Classical.byContradiction fun n => ?_⟩
    obtain ⟨i0, l0, f0⟩ := exists_fp (x := fun j => det (j :: ps) gs) n
    obtain ⟨t, ht, ft, _⟩ := em.fp lm f0
    refine f0.nz (det_dup ?_ gs)
    rcases List.mem_append.mp ht with c | c
    · obtain ⟨p, hp, fp⟩ := k3 t c
      rw [ft.uniq fp]; exact hp
    · rcases List.mem_cons.mp c with d | d
      · rw [d] at ft
        have := ft.uniq f
        omega
      · obtain ⟨a, b, rfl⟩ := List.append_of_mem d
        have e : pre ++ s :: (a ++ t :: b) = (pre ++ s :: a) ++ t :: b := by simp
        rw [e] at em
        obtain ⟨p', f', l'⟩ := em.before ft s (List.mem_append_right _ List.mem_cons_self)
        have := f.uniq f'
        omega
  obtain ⟨t, ht, ft, dv⟩ := em.fp lm fx
  have := em.one hs ht f ft
  subst this
  have hlen : gs.length = (q :: ps).length := by rw [g1, List.length_append, List.length_singleton, List.length_cons, k1]
  have le := det_le (B := B) (q :: ps) gs hlen fun x hx c _ => hB x (g2 x hx) c
  refine Nat.le_trans (Nat.le_of_dvd (Int.natAbs_pos.mpr fx.nz) (Int.natAbs_dvd_natAbs.mpr dv)) (Nat.le_trans le ?_)
  have ln : (q :: ps).length ≤ n := by
    rw [List.length_cons, k1]
    rw [List.length_append, List.length_cons] at hn
    omega
  exact Nat.mul_le_mul (fac_up ln) (pow_up b1 ln)
/-- all of a row is small whose parts where steps begin are -/
theorem part_det {G made : List Vc} {n B P : Nat} (hn : made.length ≤ n) (b1 : 1 ≤ B) (hB : ∀ g ∈ G, ∀ i, (g i).natAbs ≤ B) (em : Ech 0 made) (h1 : ∀ s ∈ made, ∃ D : Int, D ≠ 0 ∧ Lat G (fun i => D * s i)) (h2 : ∀ g ∈ G, Lat made g)
    {x : Vc} (hx : ∃ D : Int, D ≠ 0 ∧ Lat G (fun i => D * x i)) (hP : ∀ s ∈ made, ∀ q, Fp s q → (x q).natAbs ≤ P) (i : Nat) : (x i).natAbs ≤ n * (B * (fac n * (P * B ^ (n - 1)))) := by
  obtain ⟨D, hD, hl⟩ := hx
  obtain ⟨ps, k1, k2, k3, k4, _⟩ := em.places
  obtain ⟨gs, g1, g2, g3⟩ := (det_lin ps).someQ (G := G) made [] h1 (by rw [List.nil_append]; exact k4)
  rw [List.nil_append] at g3
  have z0 : det (i :: ps) (x :: gs) = 0 := by
    have lz : Lat (x :: gs) (fun j => det (j :: ps) (x :: gs)) := alt_lat (x :: gs) (det ps)
    obtain ⟨k, y, hy, e⟩ := lz.head
    have lm : Lat made (fun j => D * det (j :: ps) (x :: gs)) := by
      have z := ((hl.mono h2).mul k).sum (((hy.sub_of g2).mono h2).mul D)
      have e2 : (fun i => k * (D * x i) + D * y i) = fun j => D * det (j :: ps) (x :: gs) := funext fun j => by
        have := congrFun e j
        rw [this, Int.mul_add, Int.mul_left_comm]
      rwa [e2] at z
    refine Classical.byContradiction fun n => ?_
    obtain ⟨i0, l0, f0⟩ := exists_fp (x := fun j => D * det (j :: ps) (x :: gs)) (i := i) fun w => (Int.mul_eq_zero.mp w).elim hD n
    obtain ⟨t, ht, ft, _⟩ := em.fp lm f0
    obtain ⟨p, hp, fp⟩ := k3 t ht
    refine f0.nz ?_
    show D * det (i0 :: ps) (x :: gs) = 0
    rw [ft.uniq fp, show det (p :: ps) (x :: gs) = 0 from det_dup hp _, Int.mul_zero]
  have ex : x i * det ps gs = alt i (fun M => det ps (x :: M)) gs := by
    have : x i * det ps gs - alt i (fun M => det ps (x :: M)) gs = 0 := z0
    omega
  have b2 := alt_le (c := i) (B := B) (b := fac ps.length * (P * B ^ (ps.length - 1))) gs (fun M => det ps (x :: M)) (fun y hy => hB y (g2 y hy) i) fun M m1 m2 => by
    refine det_le1 x ps [] M (by rw [List.nil_append, List.length_cons, m2, g1, k1]) (fun y hy c _ => hB y (g2 y (m1 y hy)) c) fun c hc => ?_
    obtain ⟨s, hs, fs⟩ := k2 c hc
    exact hP s hs c fs
  rw [← ex, Int.natAbs_mul, g1, k1] at b2
  refine Nat.le_trans (Nat.le_mul_of_pos_right _ (Int.natAbs_pos.mpr g3)) (Nat.le_trans b2 ?_)
  exact Nat.mul_le_mul hn (Nat.mul_le_mul_left _ (Nat.mul_le_mul (fac_up hn) (Nat.mul_le_mul_left _ (pow_up b1 (by omega)))))
end El
/-! Rows that come to nought with others: how many steps, and what comes to nought with these. -/
namespace El
/-- the parts of two rows below m multiplied, added up -/
def dotN : Nat → Vc → Vc → Int
  | 0, _, _ => 0
  | m + 1, x, y => dotN m x y + x m * y m
theorem dotN_add : ∀ (m : Nat) (x y z : Vc) (k : Int), dotN m x (fun i => y i + k * z i) = dotN m x y + k * dotN m x z
  | 0, _, _, _, _ => by simp [dotN]
  | m + 1, x, y, z, k => by
    show dotN m x (fun i => y i + k * z i) + x m * (y m + k * z m) = dotN m x y + x m * y m + k * (dotN m x z + x m * z m)
    rw [dotN_add m x y z k, Int.mul_add, Int.mul_add, Int.mul_left_comm k]; omega
theorem dotN_comm : ∀ (m : Nat) (x y : Vc), dotN m x y = dotN m y x
  | 0, _, _ => rfl
  | m + 1, x, y => by show dotN m x y + x m * y m = dotN m y x + y m * x m; rw [dotN_comm m x y, Int.mul_comm]
theorem dotN_nil : ∀ (m : Nat) {x y : Vc}, (∀ i < m, x i * y i = 0) → dotN m x y = 0
  | 0, _, _, _ => rfl
  | m + 1, x, y, h => by
    show dotN m x y + x m * y m = 0
    rw [dotN_nil m fun i hi => h i (by omega), h m (by omega)]; rfl
theorem dotN_zero (m : Nat) (x : Vc) : dotN m x (fun _ => 0) = 0 := dotN_nil m fun i _ => by simp
theorem dotN_mul (m : Nat) (x y : Vc) (k : Int) : dotN m x (fun i => k * y i) = k * dotN m x y := by
  have z := dotN_add m x (fun _ => 0) y k
  have e : (fun i => (fun _ : Nat => (0 : Int)) i + k * y i) = fun i => k * y i := funext fun i => by simp
  rw [e, dotN_zero] at z
  omega
/-- one place alone -/
theorem dotN_one : ∀ (m : Nat) {x y : Vc} {q : Nat}, q < m → (∀ i < m, i ≠ q → x i * y i = 0) → dotN m x y = x q * y q
  | 0, _, _, _, h, _ => absurd h (Nat.not_lt_zero _)
  | m + 1, x, y, q, h, z => by
    show dotN m x y + x m * y m = x q * y q
    by_cases e : q = m
    · subst e
      rw [dotN_nil q fun i hi => z i (by omega) (by omega)]; omega
    · rw [dotN_one m (by omega) fun i hi n => z i (by omega) n, z m (by omega) (Ne.symm e)]; omega
theorem Lat.orth {m : Nat} {G : List Vc} {x y : Vc} (h : ∀ g ∈ G, dotN m x g = 0) (hy : Lat G y) : dotN m x y = 0 := by
  induction hy with
  | zero => exact dotN_zero m x
  | @add u g k _ hg ih => rw [dotN_add, ih, h g hg]; simp
/-- within the first m places -/
def In (m : Nat) (x : Vc) : Prop := ∀ i, m ≤ i → x i = 0
theorem Lat.inM {m : Nat} {G : List Vc} {y : Vc} (h : ∀ g ∈ G, In m g) (hy : Lat G y) : In m y := fun i hi => hy.zeros fun g hg => h g hg i hi
/-- to nought with all of E -/
def Orth (m : Nat) (E : List Vc) (x : Vc) : Prop := In m x ∧ ∀ e ∈ E, dotN m e x = 0
theorem Orth.zero {m : Nat} {E : List Vc} : Orth m E (fun _ => 0) := ⟨fun _ _ => rfl, fun e _ => dotN_zero m e⟩
theorem Orth.add {m : Nat} {E : List Vc} {x y : Vc} (hx : Orth m E x) (hy : Orth m E y) (k : Int) : Orth m E (fun i => x i + k * y i) :=
  ⟨fun i hi => by show x i + k * y i = 0; rw [hx.1 i hi, hy.1 i hi]; simp, fun e he => by rw [dotN_add, hx.2 e he, hy.2 e he]; simp⟩
theorem Orth.mul {m : Nat} {E : List Vc} {y : Vc} (hy : Orth m E y) (k : Int) : Orth m E (fun i => k * y i) :=
  ⟨fun i hi => by show k * y i = 0; rw [hy.1 i hi]; simp, fun e he => by rw [dotN_mul, hy.2 e he]; simp⟩
theorem Orth.lat {m : Nat} {E : List Vc} {F : List Vc} {x : Vc} (h : ∀ f ∈ F, Orth m E f) (hx : Lat F x) : Orth m E x := by
  induction hx with
  | zero => exact .zero
  | @add y g k _ hg ih => exact ih.add (h g hg) k
/-- for each place at which no step begins a row that ends there, with parts there and where steps begin alone -/
theorem Ech.solve {m q : Nat} (hq : q < m) : ∀ {n : Nat} {E : List Vc}, Ech n E → (∀ e ∈ E, In m e) → (∀ e ∈ E, ¬ Fp e q) → ∃ y, y q ≠ 0 ∧ (∀ i, q < i → y i = 0) ∧ (∀ i < n, i ≠ q → y i = 0) ∧ (∀ i, i ≠ q → (∀ e ∈ E, ¬ Fp e i) → y i = 0) ∧ ∀ e ∈ E, dotN m e y = 0
  | _, [], _, _, _ => ⟨fun i => if i = q then 1 else 0, by simp, fun i hi => if_neg (by omega), fun i _ hn => if_neg hn, fun i hn _ => if_neg hn, fun _ h => absurd h List.not_mem_nil⟩
  | n, e :: E, h, hm, hn => by
    cases h with
    | @cons _ p _ _ f l h' =>
    have pq : p ≠ q := fun z => hn e List.mem_cons_self (z ▸ f)
    have pm : p < m := by
      rcases Nat.lt_or_ge p m with c | c
      · exact c
      · exact absurd (hm e List.mem_cons_self p c) f.nz
    rcases Nat.lt_or_gt_of_ne pq with c | c
    · obtain ⟨y, y1, y2, y3, y4, y5⟩ := Ech.solve hq h' (fun x hx => hm x (List.mem_cons_of_mem _ hx)) fun x hx => hn x (List.mem_cons_of_mem _ hx)
      have yp : y p = 0 := y3 p (Nat.lt_succ_self _) pq
      have dl : ∀ x : Vc, dotN m x (fun i => if i = p then (1 : Int) else 0) = x p := fun x => by
        rw [dotN_one m pm fun i _ hi => by rw [if_neg hi]; simp]; simp
      have ey : (fun i => e p * y i + -(dotN m e y) * (if i = p then 1 else 0)) = fun i => (fun i => e p * y i) i + -(dotN m e y) * (fun i => if i = p then (1 : Int) else 0) i := rfl
      refine ⟨fun i => e p * y i + -(dotN m e y) * (if i = p then 1 else 0), ?_, fun i hi => ?_, fun i hi hne => ?_, fun i hne hE => ?_, fun x hx => ?_⟩
      · show e p * y q + -(dotN m e y) * (if q = p then 1 else 0) ≠ 0
        rw [if_neg (Ne.symm pq), Int.mul_zero, Int.add_zero]
        exact fun z => (Int.mul_eq_zero.mp z).elim f.nz y1
      · show e p * y i + -(dotN m e y) * (if i = p then 1 else 0) = 0
        rw [y2 i hi, if_neg (by omega)]; simp
      · show e p * y i + -(dotN m e y) * (if i = p then 1 else 0) = 0
        rw [y3 i (by omega) hne, if_neg (by omega)]; simp
      · show e p * y i + -(dotN m e y) * (if i = p then 1 else 0) = 0
        have ip : i ≠ p := fun z => hE e List.mem_cons_self (z ▸ f)
        rw [y4 i hne fun x hx => hE x (List.mem_cons_of_mem _ hx), if_neg ip]; simp
      · rw [ey, dotN_add, dotN_mul, dl]
        rcases List.mem_cons.mp hx with z | z
        · rw [z, Int.mul_comm, Int.neg_mul]; omega
        · rw [y5 x z, h'.zero x z p (Nat.lt_succ_self _)]; simp
    · refine ⟨fun i => if i = q then 1 else 0, by simp, fun i hi => if_neg (by omega), fun i _ hn => if_neg hn, fun i hn _ => if_neg hn, fun x hx => ?_⟩
      rw [dotN_one m hq fun i _ hi => by rw [if_neg hi]; simp]
      have : x q = 0 := by
        rcases List.mem_cons.mp hx with z | z
        · rw [z]; exact f.zs q c
        · exact h'.zero x z q (by omega)
      rw [this]; simp
/-- rows that come to nought with steps, one for each place where none begins -/
theorem Ech.kernel {m : Nat} {E : List Vc} (h : Ech 0 E) (hm : ∀ e ∈ E, In m e) : ∃ (qs : List Nat) (Y : List Vc), Tri qs Y ∧ Y.length + E.length = m ∧ (∀ y ∈ Y, Orth m E y) ∧ (∀ x, Orth m E x → ∃ D : Int, D ≠ 0 ∧ Lat Y (fun i => D * x i)) ∧
    ∀ q < m, (∀ e ∈ E, ¬ Fp e q) → ∃ y ∈ Y, y q ≠ 0 ∧ ∀ i, i ≠ q → (∀ e ∈ E, ¬ Fp e i) → y i = 0 := by
  obtain ⟨ps, t, p1, p2⟩ := h.tri
  have pnd : ps.Nodup := by
    have : ∀ {n : Nat} {E : List Vc} {ps : List Nat}, Ech n E → Tri ps E → (∀ x ∈ E, ∃ p ∈ ps, Fp x p) → (∀ p ∈ ps, ∃ x ∈ E, Fp x p) → True := fun _ _ _ _ => trivial
    clear p1 p2 this
    induction t with
    | nil => exact .nil
    | @cons p ps x xs a b t ih =>
      cases h with
      | cons f l e =>
      refine List.nodup_cons.mpr ⟨fun hp => ?_, ih (e.down (Nat.zero_le _)) fun y hy => hm y (List.mem_cons_of_mem _ hy)⟩
      clear ih
      have : ∀ {ps : List Nat} {xs : List Vc}, Tri ps xs → p ∈ ps → (∀ y ∈ xs, y p = 0) → False := fun {ps xs} t => by
        induction t with
        | nil => intro h; exact absurd h List.not_mem_nil
        | @cons q qs y ys c d t ih2 =>
          intro hp hz
          rcases List.mem_cons.mp hp with z | z
          · exact c (z ▸ hz y List.mem_cons_self)
          · exact ih2 z fun u hu => hz u (List.mem_cons_of_mem _ hu)
      exact this t hp b
  have pm : ∀ p ∈ ps, p < m := fun p hp => by
    obtain ⟨x, hx, fx⟩ := p1 p hp
    rcases Nat.lt_or_ge p m with c | c
    · exact c
    · exact absurd (hm x hx p c) fx.nz
  have noP : ∀ q, q ∉ ps → ∀ e ∈ E, ¬ Fp e q := fun q hq e he f => by
    obtain ⟨p, hp, fp⟩ := p2 e he
    exact hq (f.uniq fp ▸ hp)
  have yes : ∀ q, (∀ e ∈ E, ¬ Fp e q) → q ∉ ps := fun q hE hq => by
    obtain ⟨x, hx, fx⟩ := p1 q hq
    exact hE x hx fx
  -- by places from behind
  have key : ∀ k, k ≤ m → ∃ (qs : List Nat) (Y : List Vc), Tri qs Y ∧ (∀ q, q ∈ qs ↔ q < k ∧ q ∉ ps) ∧ qs.Nodup ∧ (∀ y ∈ Y, Orth m E y) ∧ (∀ y ∈ Y, ∀ i, k ≤ i → y i = 0) ∧ (∀ x, Orth m E x → (∀ i, k ≤ i → x i = 0) → ∃ D : Int, D ≠ 0 ∧ Lat Y (fun i => D * x i)) ∧
      ∀ q < k, q ∉ ps → ∃ y ∈ Y, y q ≠ 0 ∧ ∀ i, i ≠ q → (∀ e ∈ E, ¬ Fp e i) → y i = 0 := fun k => by
    induction k with
    | zero =>
      intro _
      refine ⟨[], [], .nil, fun q => ⟨fun h => absurd h List.not_mem_nil, fun h => absurd h.1 (Nat.not_lt_zero _)⟩, .nil, fun _ h => absurd h List.not_mem_nil, fun _ h => absurd h List.not_mem_nil, fun x _ hz => ⟨1, by decide, ?_⟩, fun q h => absurd h (Nat.not_lt_zero _)⟩
      have e : (fun i => 1 * x i) = fun _ : Nat => (0 : Int) := funext fun i => by rw [hz i (Nat.zero_le _)]; simp
      rw [e]; exact .zero
    | succ k ih =>
      intro hk
      obtain ⟨qs, Y, t1, t2, t3, t4, t5, t6, t7⟩ := ih (by omega)
      by_cases c : k ∈ ps
      · refine ⟨qs, Y, t1, fun q => ?_, t3, t4, fun y hy i hi => t5 y hy i (by omega), fun x ox hz => t6 x ox fun i hi => ?_, fun q hq hn => t7 q ?_ hn⟩
        · rw [t2 q]
          constructor
          · rintro ⟨a, b⟩; exact ⟨by omega, b⟩
          · rintro ⟨a, b⟩
            refine ⟨?_, b⟩
            rcases Nat.lt_or_eq_of_le (Nat.le_of_lt_succ a) with z | z
            · exact z
            · exact absurd (z ▸ c) b
        · rcases Nat.lt_or_eq_of_le hi with z | z
          · exact hz i z
          · subst z
            obtain ⟨e, he, fe⟩ := p1 k c
            have o := ox.2 e he
            rw [dotN_one m (q := k) (by omega) fun i hi hne => ?_] at o
            · exact (Int.mul_eq_zero.mp o).resolve_left fe.nz
            · rcases Nat.lt_or_gt_of_ne hne with w | w
              · rw [fe.zs i w]; simp
              · rw [hz i w]; simp
        · rcases Nat.lt_or_eq_of_le (Nat.le_of_lt_succ hq) with z | z
          · exact z
          · exact absurd (z ▸ c) hn
      · obtain ⟨y, y1, y2, y3, y4, y5⟩ := h.solve (m := m) (q := k) (by omega) hm (noP k c)
        have oy : Orth m E y := ⟨fun i hi => y2 i (by omega), y5⟩
        refine ⟨k :: qs, y :: Y, .cons y1 (fun u hu => t5 u hu k (Nat.le_refl _)) t1, fun q => ?_, List.nodup_cons.mpr ⟨fun z => by have := ((t2 k).mp z).1; omega, t3⟩, fun u hu => ?_, fun u hu i hi => ?_, fun x ox hz => ?_, fun q hq hn => ?_⟩
        · rw [List.mem_cons, t2 q]
          constructor
          · rintro (z | ⟨a, b⟩)
            · exact ⟨by omega, z ▸ c⟩
            · exact ⟨by omega, b⟩
          · rintro ⟨a, b⟩
            rcases Nat.lt_or_eq_of_le (Nat.le_of_lt_succ a) with z | z
            · exact .inr ⟨z, b⟩
            · exact .inl z
        · rcases List.mem_cons.mp hu with z | z
          · rw [z]; exact oy
          · exact t4 u z
        · rcases List.mem_cons.mp hu with z | z
          · rw [z]; exact y2 i (by omega)
          · exact t5 u z i (by omega)
        · obtain ⟨D, hD, hl⟩ := t6 (fun i => y k * x i + -(x k) * y i) ((ox.mul (y k)).add oy (-(x k))) fun i hi => by
            show y k * x i + -(x k) * y i = 0
            rcases Nat.lt_or_eq_of_le hi with z | z
            · rw [hz i z, y2 i z]; simp
            · rw [← z, Int.mul_comm (y k), Int.neg_mul]; omega
          refine ⟨D * y k, fun z => (Int.mul_eq_zero.mp z).elim hD y1, ?_⟩
          have z := (hl.sub_of fun g hg => List.mem_cons_of_mem y hg).sum ((Lat.of (List.mem_cons_self (a := y) (l := Y))).mul (D * x k))
          have e : (fun i => D * (y k * x i + -(x k) * y i) + D * x k * y i) = fun i => D * y k * x i := funext fun i => by
            rw [Int.mul_add, Int.neg_mul, Int.mul_neg, Int.mul_assoc, Int.mul_assoc]; omega
          rwa [e] at z
        · rcases Nat.lt_or_eq_of_le (Nat.le_of_lt_succ hq) with z | z
          · obtain ⟨u, hu, w⟩ := t7 q z hn
            exact ⟨u, List.mem_cons_of_mem _ hu, w⟩
          · exact ⟨y, List.mem_cons_self, z ▸ y1, fun i hi hE => y4 i (z ▸ hi) hE⟩
  obtain ⟨qs, Y, t1, t2, t3, t4, _, t6, t7⟩ := key m (Nat.le_refl _)
  refine ⟨qs, Y, t1, ?_, t4, fun x ox => t6 x ox ox.1, fun q hq hE => t7 q hq (yes q hE)⟩
  rw [← t1.len, ← t.len]
  have nd : (qs ++ ps).Nodup := by
    rw [List.nodup_append]
    exact ⟨t3, pnd, fun a ha b hb e => ((t2 a).mp ha).2 (e ▸ hb)⟩
  have a1 := nodup_le nd (l' := List.range m) fun x hx => by
    rw [List.mem_range]
    rcases List.mem_append.mp hx with z | z
    · exact ((t2 x).mp z).1
    · exact pm x z
  have a2 := nodup_le (List.nodup_range (n := m)) (l' := qs ++ ps) fun x hx => by
    rw [List.mem_range] at hx
    by_cases c : x ∈ ps
    · exact List.mem_append_right _ c
    · exact List.mem_append_left _ ((t2 x).mpr ⟨hx, c⟩)
  rw [List.length_append, List.length_range] at a1 a2
  omega
/-- steps of what comes to nought with steps: as many as lack -/
theorem kernel_rank {m n : Nat} {E F : List Vc} (h : Ech 0 E) (hm : ∀ e ∈ E, In m e) (hF : Ech n F) (h1 : ∀ f ∈ F, Orth m E f) (h2 : ∀ x, Orth m E x → ∃ D : Int, D ≠ 0 ∧ Lat F (fun i => D * x i)) : F.length + E.length = m := by
  obtain ⟨qs, Y, t, l, o, g, _⟩ := h.kernel hm
  have a := hF.le (G := Y) fun f hf => g f (h1 f hf)
  have b := t.le (G := F) fun y hy => h2 y (o y hy)
  omega
/-- what comes to nought with all that comes to nought with steps: some multiple is a mixture of these -/
theorem double_orth {m : Nat} {E : List Vc} (h : Ech 0 E) (hm : ∀ e ∈ E, In m e) {x : Vc} (hx : In m x) (ho : ∀ y, Orth m E y → dotN m y x = 0) : ∃ D : Int, D ≠ 0 ∧ Lat E (fun i => D * x i) := by
  obtain ⟨qs, Y, t, l, o, g, s⟩ := h.kernel hm
  -- what is left where no step begins
  have red : ∀ {n : Nat} {A : List Vc}, Ech n A → ∀ z : Vc, ∃ D : Int, D ≠ 0 ∧ ∃ g, Lat A g ∧ (∀ a ∈ A, ∀ p, Fp a p → D * z p = g p) := fun {n A} e => by
    induction e with
    | nil => exact fun z => ⟨1, by decide, _, .zero, fun _ h => absurd h List.not_mem_nil⟩
    | @cons n p a A f l e ih =>
      intro z
      obtain ⟨D, hD, g, hg, w⟩ := ih (fun i => a p * z i + -(z p) * a i)
      refine ⟨D * a p, fun q => (Int.mul_eq_zero.mp q).elim hD f.nz, fun i => g i + D * z p * a i, (hg.sub_of fun u hu => List.mem_cons_of_mem a hu).sum ((Lat.of List.mem_cons_self).mul (D * z p)), fun u hu r fr => ?_⟩
      rcases List.mem_cons.mp hu with q | q
      · rw [q] at fr
        have := fr.uniq f
        subst this
        show D * a r * z r = g r + D * z r * a r
        rw [hg.zeros fun v hv => e.zero v hv r (Nat.lt_succ_self _), Int.mul_assoc, Int.mul_assoc, Int.mul_comm (a r)]; omega
      · have y := w u q r fr
        show D * a p * z r = g r + D * z p * a r
        rw [← y, Int.mul_add, Int.neg_mul, Int.mul_neg, Int.mul_assoc, Int.mul_assoc]; omega
  obtain ⟨D, hD, g, hg, w⟩ := red h x
  refine ⟨D, hD, ?_⟩
  have e : (fun i => D * x i) = g := funext fun i => by
    by_cases c : ∃ e ∈ E, Fp e i
    · obtain ⟨e, he, f⟩ := c
      exact w e he i f
    · have nE : ∀ e ∈ E, ¬ Fp e i := fun e he f => c ⟨e, he, f⟩
      by_cases im : i < m
      · obtain ⟨y, hy, yi, yz⟩ := s i im nE
        have oy := o y hy
        have d1 : dotN m y (fun j => D * x j + (-1) * g j) = 0 := by
          rw [dotN_add, dotN_mul, ho y oy, Lat.orth (fun a ha => by rw [dotN_comm]; exact oy.2 a ha) hg]; simp
        rw [dotN_one m im fun j _ hj => ?_] at d1
        · have := (Int.mul_eq_zero.mp d1).resolve_left yi
          omega
        · by_cases c2 : ∃ e ∈ E, Fp e j
          · obtain ⟨e, he, f⟩ := c2
            show y j * (D * x j + (-1) * g j) = 0
            rw [w e he j f, show g j + (-1) * g j = 0 by omega, Int.mul_zero]
          · rw [yz j hj fun e he f => c2 ⟨e, he, f⟩]; simp
      · rw [hx i (by omega), hg.inM hm i (by omega)]; simp
  rw [e]; exact hg
end El
/-! Rows whose steps are put together one by one, bounded by determinants; frames. -/
namespace El
def bdP (n B : Nat) : Nat := fac n * B ^ n
def bdW (n B P : Nat) : Nat := n * (B * (fac n * (P * B ^ (n - 1))))
def bd (n B : Nat) : Nat := bdW n B (bdP n B)
/-- steps are small that some small rows make, whole times -/
theorem Hnf.boundQ {m n B : Nat} {G ms : List (List Int)} {V : List Vc} (h : Hnf m G ms) (hn : ms.length ≤ n) (b1 : 1 ≤ B) (hB : ∀ g ∈ V, ∀ i, (g i).natAbs ≤ B) (h1 : ∀ s ∈ ms, ∃ D : Int, D ≠ 0 ∧ Lat V (fun i => D * co s i)) (h2 : ∀ g ∈ V, Lat (ms.map co) g) :
    (∀ x ∈ ms, ∀ q, Fp (co x) q → (co x q).natAbs ≤ bdP n B) ∧ ∀ x ∈ ms, ∀ i, (co x i).natAbs ≤ bd n B := by
  have h1' : ∀ s ∈ ms.map co, ∃ D : Int, D ≠ 0 ∧ Lat V (fun i => D * s i) := fun s hs => by obtain ⟨y, hy, rfl⟩ := List.mem_map.mp hs; exact h1 y hy
  have pv : ∀ x ∈ ms, ∀ q, Fp (co x) q → (co x q).natAbs ≤ bdP n B := fun x hx q f => pivot_det (by rw [List.length_map]; exact hn) b1 hB h.ech h1' h2 (List.mem_map_of_mem hx) f
  refine ⟨pv, fun x hx i => part_det (P := bdP n B) (by rw [List.length_map]; exact hn) b1 hB h.ech h1' h2 (h1 x hx) (fun s hs q f => ?_) i⟩
  obtain ⟨y, hy, rfl⟩ := List.mem_map.mp hs
  obtain ⟨p, fx, _⟩ := h.ech.has (co x) (List.mem_map_of_mem hx)
  rcases Nat.lt_trichotomy p q with l | l | l
  · have := h.redAt hx hy fx f l
    have := pv y hy q f
    omega
  · subst l
    exact pv x hx p fx
  · rw [fx.zs q l]
    exact Nat.zero_le _
theorem Hnf.bound {m n B : Nat} {G ms : List (List Int)} (h : Hnf m G ms) (hn : ms.length ≤ n) (b1 : 1 ≤ B) (hB : ∀ g ∈ G, ∀ i, (co g i).natAbs ≤ B) :
    (∀ x ∈ ms, ∀ q, Fp (co x) q → (co x q).natAbs ≤ bdP n B) ∧ ∀ x ∈ ms, ∀ i, (co x i).natAbs ≤ bd n B :=
  h.boundQ (V := G.map co) hn b1 (fun g hg i => by obtain ⟨y, hy, rfl⟩ := List.mem_map.mp hg; exact hB y hy i) (fun s hs => ⟨1, by decide, (h.l1 s hs).mul 1⟩) fun g hg => by obtain ⟨y, hy, rfl⟩ := List.mem_map.mp hg; exact h.l2 y hy
/-- rows whose steps are small -/
structure Calm (G : List (List Int)) : Prop where
  pv : ∀ ss : List (List Int), Ech 0 (ss.map co) → (∀ x ∈ ss, Lat (G.map co) (co x)) → (∀ x ∈ G, Lat (ss.map co) (co x)) → ∀ x ∈ ss, ∀ q, Fp (co x) q → (co x q).natAbs ≤ 2 ^ 600
  pt : ∀ ss : List (List Int), Ech 0 (ss.map co) → (∀ x ∈ ss, Lat (G.map co) (co x)) → (∀ x ∈ G, Lat (ss.map co) (co x)) → ∀ x : List Int, Lat (G.map co) (co x) → (∀ s ∈ ss, ∀ q, Fp (co s) q → (co x q).natAbs ≤ 2 ^ 600) → ∀ i, (co x i).natAbs < 2 ^ 1200
/-- rows that are put to steps one by one -/
structure Fine (m : Nat) (G : List (List Int)) : Prop where
  cnt : G.length ≤ 20
  len : ∀ g ∈ G, g.length = m
  sm : ∀ g ∈ G, Sm 100 g
  calm : ∀ i, Calm (G.take i)
theorem Fine.all {m : Nat} {G : List (List Int)} (F : Fine m G) : Calm G := by
  have := F.calm G.length
  rwa [List.take_length] at this
theorem Fine.take {m : Nat} {G : List (List Int)} (F : Fine m G) (i : Nat) : Fine m (G.take i) :=
  ⟨by have := F.cnt; rw [List.length_take]; omega, fun g hg => F.len g (List.mem_of_mem_take hg), fun g hg => F.sm g (List.mem_of_mem_take hg), fun j => by rw [List.take_take]; exact F.calm _⟩
theorem Fine.head {m : Nat} {G : List (List Int)} {row : List Int} (F : Fine m (G ++ [row])) : Fine m G := by
  have := F.take G.length
  rwa [List.take_left] at this
theorem pivotsF {m : Nat} {G ss : List (List Int)} (F : Fine m G) (e : Ech 0 (ss.map co)) (l1 : ∀ x ∈ ss, Lat (G.map co) (co x)) (l2 : ∀ x ∈ G, Lat (ss.map co) (co x)) {x : List Int} {q : Nat} (hx : x ∈ ss) (f : Fp (co x) q) : (co x q).natAbs ≤ 2 ^ 600 :=
  F.all.pv ss e l1 l2 x hx q f
theorem Hnf.smallF {m : Nat} {G ms : List (List Int)} (h : Hnf m G ms) (F : Fine m G) : ∀ x ∈ ms, Sm 1200 x := fun x hx i => by
  refine F.all.pt ms h.ech h.l1 h.l2 x (h.l1 x hx) (fun y hy q f => ?_) i
  have py := pivotsF F h.ech h.l1 h.l2 hy f
  obtain ⟨p, fx, _⟩ := h.ech.has (co x) (List.mem_map_of_mem hx)
  rcases Nat.lt_trichotomy p q with l | l | l
  · have := h.redAt hx hy fx f l
    omega
  · subst l
    exact pivotsF F h.ech h.l1 h.l2 hx fx
  · rw [fx.zs q l]
    exact Nat.zero_le _
theorem co_in {x : List Int} {m : Nat} (h : x.length = m) : In m (co x) := fun i hi => co_out (by omega)
/-- by determinants -/
theorem Fine.of {m n B : Nat} {G : List (List Int)} (hc : G.length ≤ 20) (hl : ∀ g ∈ G, g.length = m) (b1 : 1 ≤ B) (hB : ∀ g ∈ G, ∀ i, (co g i).natAbs ≤ B) (hb : B < 2 ^ 100) (hn : m ≤ n ∨ G.length ≤ n) (hp : bdP n B ≤ 2 ^ 600) (hw : bdW n B (2 ^ 600) < 2 ^ 1200) : Fine m G := by
  refine ⟨hc, hl, fun g hg i => Nat.lt_of_le_of_lt (hB g hg i) hb, fun i => ?_⟩
  have hB' : ∀ g ∈ (G.take i).map co, ∀ j, (g j).natAbs ≤ B := fun g hg j => by
    obtain ⟨y, hy, rfl⟩ := List.mem_map.mp hg
    exact hB y (List.mem_of_mem_take hy) j
  have inM : ∀ g ∈ (G.take i).map co, In m g := fun g hg => by
    obtain ⟨y, hy, rfl⟩ := List.mem_map.mp hg
    exact co_in (hl y (List.mem_of_mem_take hy))
  have h2 : ∀ {ss : List (List Int)}, (∀ x ∈ G.take i, Lat (ss.map co) (co x)) → ∀ g ∈ (G.take i).map co, Lat (ss.map co) g := fun h g hg => by
    obtain ⟨y, hy, rfl⟩ := List.mem_map.mp hg
    exact h y hy
  have h1 : ∀ {ss : List (List Int)}, (∀ x ∈ ss, Lat ((G.take i).map co) (co x)) → ∀ s ∈ ss.map co, ∃ D : Int, D ≠ 0 ∧ Lat ((G.take i).map co) (fun j => D * s j) := fun h s hs => by
    obtain ⟨y, hy, rfl⟩ := List.mem_map.mp hs
    exact ⟨1, by decide, (h y hy).mul 1⟩
  have cn : ∀ {ss : List (List Int)}, Ech 0 (ss.map co) → (∀ x ∈ ss, Lat ((G.take i).map co) (co x)) → (ss.map co).length ≤ n := fun {ss} e l1 => by
    rcases hn with c | c
    · have z := ech_count (m := m) e (fun s hs => by obtain ⟨y, hy, rfl⟩ := List.mem_map.mp hs; exact (l1 y hy).inM inM) (Nat.zero_le _)
      omega
    · have z := e.le (h1 l1)
      rw [List.length_map, List.length_map, List.length_take] at z
      rw [List.length_map]
      omega
  refine ⟨fun ss e l1 l2 x hx q f => ?_, fun ss e l1 l2 x lx hP j => ?_⟩
  · exact Nat.le_trans (pivot_det (cn e l1) b1 hB' e (h1 l1) (h2 l2) (List.mem_map_of_mem hx) f) hp
  · refine Nat.lt_of_le_of_lt (part_det (P := 2 ^ 600) (cn e l1) b1 hB' e (h1 l1) (h2 l2) ⟨1, by decide, lx.mul 1⟩ (fun s hs q f => ?_) j) hw
    obtain ⟨y, hy, rfl⟩ := List.mem_map.mp hs
    exact hP y hy q f
/-! ### frames -/
theorem unit_co {m j i : Nat} (h : j < m) : co (unitOf m j) i = if i = j then 1 else 0 := by
  by_cases c : i < m
  · exact co_unit c
  · rw [co_out (by unfold unitOf; rw [List.length_map, List.length_range]; omega), if_neg (by omega)]
/-- mixtures with 0 ahead are mixtures of the steps with 0 ahead -/
theorem Ech.behind {R : Nat} : ∀ {n : Nat} {ss : List Vc}, Ech n ss → ∀ (p : Vc → Bool), (∀ s ∈ ss, p s = true ↔ ∀ i < R, s i = 0) → ∀ {v : Vc}, Lat ss v → (∀ i < R, v i = 0) → Lat (ss.filter p) v
  | _, [], _, p, _, v, hv, _ => hv
  | _, s :: ss, h, p, hp, v, hv, hz => by
    cases h with
    | @cons _ q _ _ f l e =>
    by_cases c : p s = true
    · have all : (s :: ss).filter p = s :: ss := List.filter_eq_self.mpr fun t ht => by
        rcases List.mem_cons.mp ht with z | z
        · rw [z]; exact c
        · refine (hp t (List.mem_cons_of_mem _ z)).mpr fun i hi => ?_
          have : R ≤ q := by
            rcases Nat.lt_or_ge q R with w | w
            · exact absurd ((hp s List.mem_cons_self).mp c q w) f.nz
            · exact w
          exact e.zero t z i (by omega)
      rw [all]; exact hv
    · rw [List.filter_cons_of_neg c]
      have qR : q < R := by
        rcases Nat.lt_or_ge q R with w | w
        · exact w
        · exact absurd ((hp s List.mem_cons_self).mpr fun i hi => f.zs i (by omega)) c
      obtain ⟨k, y, hy, rfl⟩ := hv.head
      have k0 : k = 0 := by
        have z := hz q qR
        have yq : y q = 0 := hy.zeros fun t ht => e.zero t ht q (Nat.lt_succ_self _)
        show k = 0
        have z : k * s q + y q = 0 := z
        rw [yq, Int.add_zero] at z
        exact (Int.mul_eq_zero.mp z).resolve_right f.nz
      have ey : (fun i => k * s i + y i) = y := funext fun i => by rw [k0]; simp
      rw [ey] at hz ⊢
      exact e.behind p (fun t ht => hp t (List.mem_cons_of_mem _ ht)) hy hz
theorem Ech.filter {n : Nat} {ss : List Vc} (h : Ech n ss) (p : Vc → Bool) : Ech n (ss.filter p) := by
  induction h with
  | nil => exact .nil
  | @cons n q s ss f l e ih =>
    by_cases c : p s = true
    · rw [List.filter_cons_of_pos c]; exact .cons f l ih
    · rw [List.filter_cons_of_neg c]; exact ih.down (by omega)
/-- F is the frame of G -/
structure Frm (m : Nat) (G F : List (List Int)) : Prop where
  h : Hnf m F F
  ker : ∀ x, Lat (F.map co) x ↔ Orth m (G.map co) x
theorem Orth.iff {m : Nat} {A B : List Vc} (h1 : ∀ a ∈ A, Lat B a) (h2 : ∀ b ∈ B, Lat A b) (x : Vc) : Orth m A x ↔ Orth m B x :=
  ⟨fun h => ⟨h.1, fun b hb => by rw [dotN_comm]; exact Lat.orth (fun a ha => by rw [dotN_comm]; exact h.2 a ha) (h2 b hb)⟩, fun h => ⟨h.1, fun b hb => by rw [dotN_comm]; exact Lat.orth (fun a ha => by rw [dotN_comm]; exact h.2 a ha) (h1 b hb)⟩⟩
theorem Hnf.up {m : Nat} {G ms : List (List Int)} (h : Hnf m G ms) : ∀ g ∈ G.map co, Lat (ms.map co) g := fun g hg => by obtain ⟨y, hy, rfl⟩ := List.mem_map.mp hg; exact h.l2 y hy
theorem Hnf.dn {m : Nat} {G ms : List (List Int)} (h : Hnf m G ms) : ∀ g ∈ ms.map co, Lat (G.map co) g := fun g hg => by obtain ⟨y, hy, rfl⟩ := List.mem_map.mp hg; exact h.l1 y hy
theorem Hnf.inM {m : Nat} {G ms : List (List Int)} (h : Hnf m G ms) : ∀ g ∈ ms.map co, In m g := fun g hg => by obtain ⟨y, hy, rfl⟩ := List.mem_map.mp hg; exact co_in (h.len y hy)
/-- as many as lack -/
theorem Frm.rank {m : Nat} {G ms F : List (List Int)} (f : Frm m G F) (h : Hnf m G ms) : F.length + ms.length = m := by
  have z := kernel_rank h.ech h.inM f.h.ech (fun x hx => (Orth.iff h.dn h.up x).mpr ((f.ker x).mp (.of hx))) fun x hx => ⟨1, by decide, ((f.ker x).mpr ((Orth.iff h.dn h.up x).mp hx)).mul 1⟩
  rwa [List.length_map, List.length_map] at z
/-- the frame of the frame: what is held -/
theorem Frm.held {m : Nat} {G ms F H : List (List Int)} (f : Frm m G F) (k : Frm m F H) (h : Hnf m G ms) (x : Vc) : Lat (H.map co) x ↔ In m x ∧ ∃ D : Int, D ≠ 0 ∧ Lat (G.map co) (fun i => D * x i) := by
  have inG : ∀ g ∈ G.map co, In m g := fun g hg => (h.up g hg).inM h.inM
  rw [k.ker]
  constructor
  · rintro ⟨h1, h2⟩
    refine ⟨h1, ?_⟩
    obtain ⟨D, hD, hl⟩ := double_orth h.ech h.inM h1 fun y hy => by
      rw [dotN_comm]
      refine Lat.orth (fun g hg => ?_) ((f.ker y).mpr ((Orth.iff h.dn h.up y).mp hy))
      rw [dotN_comm]; exact h2 g hg
    exact ⟨D, hD, hl.mono h.dn⟩
  · rintro ⟨h1, D, hD, hl⟩
    refine ⟨h1, fun e he => ?_⟩
    have o := (f.ker e).mp (.of he)
    have z := Lat.orth (m := m) (x := e) (fun g hg => by rw [dotN_comm]; exact o.2 g hg) hl
    rw [dotN_mul] at z
    exact (Int.mul_eq_zero.mp z).resolve_left hD
end El
/-! What is said of the defs on rows, whatever the law. -/
namespace Rw
open PySem PySem.Spec PyProof.Rows L2 Pd El
def rwD (is : List Int) : Da := .tup (is.map .int)
theorem lcD_rng {gd : TDG} {te : TDE} {vs : List Nat} {r : En} {Q : Da → Prop} (n : Nat) (g : Nat → Da) (hn : n ≤ 16777216) (h : ∀ i < n, ∀ P : Da → Prop, P (g i) → gd (.int (i : Nat)) (wipeD r vs) fun r2 => te r2 P) (q : Q (.lst ((List.range n).map g))) : lcD gd dYes te vs r Q (rngD n) [] :=
  lcD_mapM (fun i : Nat => Da.int (i : Nat)) g (List.range n) (by rw [List.length_range]; exact hn) (fun i hi P hP => h i (List.mem_range.mp hi) P hP) q
theorem lcD_rngS {gd : TDG} {tt : TDT} {te : TDE} {vs : List Nat} {r : En} {Q : Da → Prop} (n : Nat) (p : Nat → Bool) (g : Nat → Da) (hn : n ≤ 16777216)
    (h : ∀ i < n, ∀ P : Bool → Da → Prop, (p i = true → P true (g i)) → (p i = false → P false .non) → gd (.int (i : Nat)) (wipeD r vs) fun r2 => tt r2 fun b => if b = true then te r2 (P true) else P false .non) (q : Q (.lst (((List.range n).filter p).map g))) : lcD gd tt te vs r Q (rngD n) [] :=
  lcD_selM (fun i : Nat => Da.int (i : Nat)) p g (List.range n) (by rw [List.length_range]; exact hn) (fun i hi P h1 h2 => h i (List.mem_range.mp hi) P h1 h2) q
def pTaken : DSp := fun ds Q => ∃ x y : List Int, ds = [rwD x, rwD y] ∧ x.length ≤ 63 ∧ y.length ≤ 63 ∧ Q (rwD (takenL x y))
theorem pTaken_mo : MoP pTaken := fun _ _ _ q ⟨x, y, e, h, h', z⟩ => ⟨x, y, e, h, h', q _ z⟩
def pTimes : DSp := fun ds Q => ∃ (x : List Int) (n : Int), ds = [rwD x, .int n] ∧ x.length ≤ 63 ∧ (∀ a ∈ x, CMulA a n) ∧ Q (rwD (timesL x n))
theorem pTimes_mo : MoP pTimes := fun _ _ _ q ⟨x, y, e, h, h1, z⟩ => ⟨x, y, e, h, h1, q _ z⟩
theorem row_at {x : List Int} {i : Nat} (h : i < x.length) : L2.atI (x.map Da.int) ((i : Nat) : Int) = some (.int (co x i)) := by
  refine L2.atI_nat ?_
  rw [List.getElem?_map, List.getElem?_eq_getElem h, co_at h]; rfl
def pFirst : DSp := fun ds Q => ∃ x : List Int, ds = [rwD x] ∧ x.length ≤ 63 ∧ Q (.int (fpL x : Nat))
theorem pFirst_mo : MoP pFirst := fun _ _ _ q ⟨x, e, h, z⟩ => ⟨x, e, h, q _ z⟩
theorem fpL_next {x : List Int} {k : Nat} (h : k < x.length) (hz : ∀ i < k, co x i = 0) (h0 : co x k = 0) : ∀ i < k + 1, co x i = 0 := fun i hi => by
  rcases Nat.lt_or_eq_of_le (Nat.le_of_lt_succ hi) with l | l
  · exact hz i l
  · rw [l]; exact h0
theorem fpL_is {x : List Int} {k : Nat} (hk : k ≤ x.length) (hz : ∀ i < k, co x i = 0) (h : ¬ (k < x.length ∧ co x k = 0)) : fpL x = k := by
  have h1 : ¬ fpL x < k := fun l => by
    have := fpL_nz x (by omega)
    exact this (hz _ l)
  have h2 : ¬ k < fpL x := fun l => h ⟨by have := fpL_le x; omega, fpL_zero x k l⟩
  omega
def pLess : DSp := fun ds Q => ∃ (x y : List Int) (p : Nat), ds = [rwD x, rwD y, .int (p : Nat)] ∧ x.length = y.length ∧ x.length ≤ 63 ∧ p < x.length ∧ CDivZ (co x p) (co y p) ∧ (∀ a ∈ y, CMulA a ((co x p).fdiv (co y p))) ∧ Q (rwD (lessL x y p))
theorem pLess_mo : MoP pLess := fun _ _ _ q ⟨x, y, p, e, h1, h2, h3, h4, h5, z⟩ => ⟨x, y, p, e, h1, h2, h3, h4, h5, q _ z⟩
theorem fdiv_abs {a b : Int} (hb : b ≠ 0) : (a.fdiv b).natAbs ≤ a.natAbs := by
  rcases Int.lt_trichotomy b 0 with h | h | h
  · rw [← Int.neg_fdiv_neg a b]
    have := fdiv_le (a := -a) (b := -b) (by omega)
    omega
  · exact absurd h hb
  · exact fdiv_le h
/-- what is asked of the two rows ahead: all that comes up is below 2 ^ b, and b is small -/
def pJoin : DSp := fun ds Q => ∃ (x y : List Int) (p b : Nat), ds = [rwD x, rwD y, .int (p : Nat)] ∧ x.length = y.length ∧ x.length ≤ 63 ∧ p < x.length ∧ (co x p).natAbs ≤ 2 ^ 600 ∧ b ≤ 400000 ∧
  (∀ s r, Eu (2 ^ 600) p (co x) (co y) s r → ∀ i, (s i).natAbs < 2 ^ b ∧ (r i).natAbs < 2 ^ b) ∧
  ∀ u l : List Int, u.length = x.length → l.length = x.length → Eu (2 ^ 600) p (co x) (co y) (co u) (co l) → co l p = 0 → Q (.tup [rwD u, rwD l])
theorem pJoin_mo : MoP pJoin := fun _ _ _ q ⟨x, y, p, b, e, h1, h2, h3, h4, h5, h6, z⟩ => ⟨x, y, p, b, e, h1, h2, h3, h4, h5, h6, fun u l a1 a2 a3 a4 => q _ (z u l a1 a2 a3 a4)⟩
theorem log_pow {x : Int} {e : Nat} (h : x.natAbs < 2 ^ e) (h0 : 0 < e) : x.natAbs.log2 < e := PySem.Flt.log2_lt_of h0 h
theorem dv_div {a b : Int} (h : Dv (2 ^ 600) a b) (hb : b ≠ 0) : CDivZ a b := by
  have small : ∀ c : Int, c.natAbs ≤ 2 ^ 600 → c.natAbs.log2 < 9000 := fun c h =>
    Nat.lt_trans (log_pow (e := 601) (Nat.lt_of_le_of_lt h (Nat.pow_lt_pow_right (by decide) (by decide))) (by decide)) (by decide)
  refine ⟨hb, ?_⟩
  rcases h with h | ⟨hs, h1, h2⟩ | h
  · exact .inl (small b h)
  · by_cases hq : b.natAbs ≤ 2 ^ 600
    · exact .inl (small b hq)
    · exact .inr (.inr (by omega))
  · exact .inr (.inl (small a h))
theorem lcK_sel {α : Type} {gd : TDG} {tt : TDT} {te : TDE} {vs : List Nat} {r : En} {k : List Da → Prop} (f : α → Da) (p : α → Bool) (g : α → Da) : ∀ (ts : List α) (acc : List Da), acc.length + ts.length ≤ 16777216 →
    (∀ t ∈ ts, ∀ (Y : Da → Prop) (Z : Prop), (p t = true → Y (g t)) → (p t = false → Z) → gd (f t) (wipeD r vs) fun r2 => tt r2 fun b => if b = true then te r2 Y else Z) →
    k (acc ++ (ts.filter p).map g) → lcK gd tt te vs r k (ts.map f) acc
  | [], acc, _, _, q => by
    have z : k (acc ++ []) := q
    rw [List.append_nil] at z
    exact z
  | t :: ts, acc, hl, h, q => by
    rw [List.length_cons] at hl
    refine h t List.mem_cons_self (fun y => acc.length < sizeLine ∧ lcK gd tt te vs r k (ts.map f) (acc ++ [y])) (lcK gd tt te vs r k (ts.map f) acc) (fun e => ?_) (fun e => ?_)
    · refine ⟨by rw [sizeLine_eq]; omega, lcK_sel f p g ts _ (by rw [List.length_append]; show acc.length + 1 + _ ≤ _; omega) (fun x hx => h x (List.mem_cons_of_mem _ hx)) ?_⟩
      rw [List.filter_cons_of_pos e, List.map_cons] at q
      rw [List.append_assoc]
      exact q
    · refine lcK_sel f p g ts _ (by omega) (fun x hx => h x (List.mem_cons_of_mem _ hx)) ?_
      rw [List.filter_cons_of_neg (by rw [e]; exact Bool.false_ne_true)] at q
      exact q
theorem lcK_all {α : Type} {gd : TDG} {te : TDE} {vs : List Nat} {r : En} {k : List Da → Prop} (f g : α → Da) (ts : List α) (hl : ts.length ≤ 16777216)
    (h : ∀ t ∈ ts, ∀ Y : Da → Prop, Y (g t) → gd (f t) (wipeD r vs) fun r2 => te r2 Y) (q : k (ts.map g)) (gmo : ∀ d r Q Q', (∀ r, Q r → Q' r) → gd d r Q → gd d r Q') : lcK gd dYes te vs r k (ts.map f) [] := by
  refine lcK_sel f (fun _ => true) g ts [] (by show 0 + _ ≤ _; omega) (fun t ht Y Z hy _ => gmo _ _ _ _ (fun r2 z => (show (if true = true then te r2 Y else Z) from (if_pos rfl).mpr z)) (h t ht Y (hy rfl))) ?_
  rw [List.nil_append, List.filter_eq_self.mpr fun _ _ => rfl]
  exact q
theorem noLs_ints (x : List Int) : noLs (x.map .int) = true := by
  induction x with
  | nil => rfl
  | cons a x ih => rw [List.map_cons, noLs, noL, ih]; rfl
theorem noL_row (x : List Int) : noL (rwD x) = true := by
  show noL (.tup (x.map .int)) = true
  rw [noL]; exact noLs_ints x
theorem noLs_rows (xs : List (List Int)) : noLs (xs.map rwD) = true := by
  induction xs with
  | nil => rfl
  | cons a x ih => rw [List.map_cons, noLs, noL_row, ih]; rfl
def pLow : DSpF := fun ds Q => ∃ (m e : Nat) (ss : List (List Int)), ds = [.lst (ss.map rwD)] ∧ m ≤ 63 ∧ (∀ s ∈ ss, s.length = m) ∧ Ech 0 (ss.map co) ∧ (∀ s ∈ ss, El.Sm e s) ∧ (∀ s ∈ ss, ∀ q, Fp (co s) q → (co s q).natAbs ≤ 2 ^ 600) ∧ (ss.length + 1) * (e + 1) ≤ 800000 ∧ ∀ ms, Low m ss ms → Q (ms.map rwD)
theorem pLow_mo : MoPF pLow := fun _ _ _ q ⟨m, e, ss, a, b, c, d, f, g, h, z⟩ => ⟨m, e, ss, a, b, c, d, f, g, h, fun ms hm => q _ (z ms hm)⟩
def pWith : DSpF := fun ds Q => ∃ (m : Nat) (G made : List (List Int)) (row : List Int), ds = [.lst (made.map rwD), rwD row] ∧ m ≤ 63 ∧ Hnf m G made ∧ Fine m (G ++ [row]) ∧ ∀ ms, Hnf m (G ++ [row]) ms → Q (ms.map rwD)
theorem pWith_mo : MoPF pWith := fun _ _ _ q ⟨m, G, made, row, a, b, c, d, z⟩ => ⟨m, G, made, row, a, b, c, d, fun ms h => q _ (z ms h)⟩
def pSteps : DSp := fun ds Q => ∃ (m : Nat) (G : List (List Int)), ds = [.lst (G.map rwD)] ∧ m ≤ 63 ∧ Fine m G ∧ ∀ ms, Hnf m G ms → Q (.lst (ms.map rwD))
theorem any_left {l : List Int} : l.any (fun n => n != 0) = true ↔ ¬ ∀ i, co l i = 0 := by
  rw [List.any_eq_true]
  constructor
  · rintro ⟨x, hx, hn0⟩ z
    obtain ⟨j, hj, rfl⟩ := List.mem_iff_getElem.mp hx
    rw [← co_at hj, z j] at hn0
    exact absurd hn0 (by decide)
  · intro z
    simp only [Classical.not_forall] at z
    obtain ⟨i, hi⟩ := z
    have il : i < l.length := by
      rcases Nat.lt_or_ge i l.length with c | c
      · exact c
      · exact absurd (co_out c) hi
    exact ⟨co l i, co_mem il, by simpa using hi⟩
theorem joined_smF {p a : Nat} {step left : List Int} {s r : Vc} (eu : Eu (2 ^ 600) p (co step) (co left) s r) (h1 : El.Sm 1200 step) (h2 : El.Sm a left) (hp : (co step p).natAbs ≤ 2 ^ 600) : ∀ i, (s i).natAbs < 2 ^ (a + 1203) ∧ (r i).natAbs < 2 ^ (a + 1203) := fun i => by
  have b := eu.bound (S := 2 ^ 1200) (R := 2 ^ a) (fun i => Nat.le_of_lt (h1 i)) (fun i => Nat.le_of_lt (h2 i)) i
  have e1 : 2 ^ a * 2 ^ 1200 = 2 ^ (a + 1200) := (Nat.pow_add 2 a 1200).symm
  have e2 : (co step p).natAbs * 2 ^ a ≤ 2 ^ (a + 1200) := by
    rw [← e1, Nat.mul_comm]
    exact Nat.mul_le_mul_left _ (Nat.le_trans hp (Nat.pow_le_pow_right (by decide) (by decide)))
  have e3 : 2 ^ a ≤ 2 ^ (a + 1200) := Nat.pow_le_pow_right (by decide) (by omega)
  have e4 : 2 ^ 1200 ≤ 2 ^ (a + 1200) := Nat.pow_le_pow_right (by decide) (by omega)
  have e5 : 2 ^ (a + 1203) = 8 * 2 ^ (a + 1200) := by rw [show a + 1203 = (a + 1200) + 3 by omega, Nat.pow_add _ _ 3, Nat.mul_comm]
  rw [e1] at b
  have pos : 0 < 2 ^ (a + 1200) := Nat.pow_pos (by decide)
  generalize 2 ^ (a + 1200) = X at b e2 e3 e4 e5 pos
  generalize 2 ^ 1200 = Y at b e4
  generalize 2 ^ a = Z at b e2 e3
  rw [e5]
  omega
/-- the steps, as a new list -/
def pStepsF : DSpF := fun ds Q => ∃ (m : Nat) (G : List (List Int)), ds = [.lst (G.map rwD)] ∧ m ≤ 63 ∧ Fine m G ∧ ∀ ms, Hnf m G ms → Q (ms.map rwD)
theorem pStepsF_mo : MoPF pStepsF := fun _ _ _ q ⟨m, G, a, b, c, z⟩ => ⟨m, G, a, b, c, fun ms h => q _ (z ms h)⟩
end Rw
/-! Three names at once. -/
namespace Pd
open PySem PySem.Spec PyProof.Rows L2
section
variable {X : Cx} {w : Wd} {a b c : Expr} {pos : Pos}
end
end Pd
/-! Few places: the same bounds by the number of places. -/
namespace El
end El
/-! The law's own count of steps: rows crossed, column by column. -/
namespace El
/-- a row crossed with the one that leads -/
def crossL (a x y : List Int) (c : Nat) : List Int := takenL (timesL x (co a c)) (timesL y (co x c))
def kB : Nat → Nat
  | 0 => 5
  | c + 1 => 2 * kB c + 1
theorem kB_up : ∀ (c d : Nat), c ≤ d → kB c ≤ kB d := fun c d h => by
  induction h with
  | refl => exact Nat.le_refl _
  | step _ ih => exact Nat.le_trans ih (by show _ ≤ 2 * kB _ + 1; omega)
theorem co_cross {lead x : List Int} (h : x.length = lead.length) (c i : Nat) : co (crossL lead x lead c) i = co lead c * co x i - co x c * co lead i := by
  unfold crossL
  rw [co_taken (by rw [times_len, times_len]; exact h), co_times, co_times, Int.mul_comm (co x i), Int.mul_comm (co lead i)]
theorem cross_len {lead x : List Int} (h : x.length = lead.length) (c : Nat) : (crossL lead x lead c).length = x.length := by
  unfold crossL
  rw [taken_len (by rw [times_len, times_len]; exact h), times_len]
theorem cross_sm {lead x : List Int} {e : Nat} (h : x.length = lead.length) (c : Nat) (h1 : Sm e lead) (h2 : Sm e x) : Sm (2 * e + 1) (crossL lead x lead c) := fun i => by
  rw [co_cross h]
  have b1 : (co lead c * co x i).natAbs ≤ 2 ^ e * 2 ^ e := by rw [Int.natAbs_mul]; exact Nat.mul_le_mul (Nat.le_of_lt (h1 c)) (Nat.le_of_lt (h2 i))
  have b2 : (co x c * co lead i).natAbs < 2 ^ e * 2 ^ e := by rw [Int.natAbs_mul]; exact Nat.mul_lt_mul'' (h2 c) (h1 i)
  have e1 : 2 ^ (2 * e + 1) = 2 ^ e * 2 ^ e + 2 ^ e * 2 ^ e := by rw [Nat.pow_succ, Nat.two_mul, Nat.pow_add]; omega
  rw [e1]
  omega
/-- the columns crossed so far -/
structure CutI (m c : Nat) (G found rest : List (List Int)) : Prop where
  len : ∀ x ∈ found ++ rest, x.length = m
  ech : Ech 0 (found.map co)
  bel : ∀ x ∈ found, ∃ p, Fp (co x) p ∧ p < c
  rz : ∀ x ∈ rest, ∀ i < c, co x i = 0
  l1 : ∀ x ∈ found ++ rest, Lat (G.map co) (co x)
  l2 : ∀ g ∈ G, ∃ D : Int, D ≠ 0 ∧ Lat ((found ++ rest).map co) (fun i => D * co g i)
  sm : ∀ x ∈ found ++ rest, Sm (kB c) x
theorem CutI.start {m : Nat} {G : List (List Int)} (F : Few m G) : CutI m 0 G [] G :=
  ⟨F.len, .nil, fun _ h => absurd h List.not_mem_nil, fun _ _ i h => absurd h (Nat.not_lt_zero _), fun x hx => .of (List.mem_map_of_mem hx), fun g hg => ⟨1, by decide, (Lat.of (List.mem_map_of_mem (f := co) (show g ∈ [] ++ G from hg))).mul 1⟩, fun x hx i => Nat.lt_of_le_of_lt (F.sm x hx i) (by decide)⟩
theorem CutI.skip {m c : Nat} {G found rest : List (List Int)} (h : CutI m c G found rest) (hz : ∀ x ∈ rest, co x c = 0) : CutI m (c + 1) G found rest :=
  ⟨h.len, h.ech, fun x hx => by obtain ⟨p, f, l⟩ := h.bel x hx; exact ⟨p, f, by omega⟩, fun x hx i hi => by
    rcases Nat.lt_or_eq_of_le (Nat.le_of_lt_succ hi) with z | z
    · exact h.rz x hx i z
    · rw [z]; exact hz x hx, h.l1, h.l2, fun x hx => (h.sm x hx).up (kB_up _ _ (Nat.le_succ _))⟩
theorem CutI.next {m c : Nat} {G found rest : List (List Int)} {lead : List Int} {os : List (List Int)} (h : CutI m c G found rest) (he : rest.filter (nzB c) = lead :: os) :
    CutI m (c + 1) G (found ++ [lead]) ((rest.filter fun x => !nzB c x) ++ os.map fun x => crossL lead x lead c) := by
  have inS : ∀ x ∈ lead :: os, x ∈ rest ∧ co x c ≠ 0 := fun x hx => by
    rw [← he] at hx
    obtain ⟨h1, h2⟩ := List.mem_filter.mp hx
    exact ⟨h1, of_decide_eq_true h2⟩
  have inZ : ∀ x ∈ rest.filter (fun x => !nzB c x), x ∈ rest ∧ co x c = 0 := fun x hx => by
    obtain ⟨h1, h2⟩ := List.mem_filter.mp hx
    refine ⟨h1, ?_⟩
    by_cases z : co x c = 0
    · exact z
    · have : nzB c x = true := decide_eq_true z
      rw [this] at h2
      cases h2
  have inR : ∀ x ∈ rest, x ∈ found ++ rest := fun x hx => List.mem_append_right _ hx
  obtain ⟨lr, lnz⟩ := inS lead List.mem_cons_self
  have ll := h.len lead (inR _ lr)
  have lo : ∀ x ∈ os, x.length = lead.length := fun x hx => (h.len x (inR _ (inS x (List.mem_cons_of_mem _ hx)).1)).trans ll.symm
  have fl : Fp (co lead) c := ⟨lnz, h.rz lead lr⟩
  refine ⟨?_, ?_, ?_, ?_, ?_, ?_, ?_⟩
  · intro x hx
    rcases List.mem_append.mp hx with z | z
    · rcases List.mem_append.mp z with z | z
      · exact h.len x (List.mem_append_left _ z)
      · rw [List.mem_singleton.mp z]; exact ll
    · rcases List.mem_append.mp z with z | z
      · exact h.len x (inR _ (inZ x z).1)
      · obtain ⟨y, hy, rfl⟩ := List.mem_map.mp z
        rw [cross_len (lo y hy), lo y hy, ll]
  · rw [List.map_append]
    refine h.ech.snoc (fun x hx => ?_) fl (Nat.zero_le _)
    obtain ⟨y, hy, rfl⟩ := List.mem_map.mp hx
    exact h.bel y hy
  · intro x hx
    rcases List.mem_append.mp hx with z | z
    · obtain ⟨p, f, l⟩ := h.bel x z
      exact ⟨p, f, by omega⟩
    · rw [List.mem_singleton.mp z]; exact ⟨c, fl, Nat.lt_succ_self _⟩
  · intro x hx i hi
    rcases List.mem_append.mp hx with z | z
    · obtain ⟨z1, z2⟩ := inZ x z
      rcases Nat.lt_or_eq_of_le (Nat.le_of_lt_succ hi) with y | y
      · exact h.rz x z1 i y
      · rw [y]; exact z2
    · obtain ⟨y, hy, rfl⟩ := List.mem_map.mp z
      rw [co_cross (lo y hy)]
      rcases Nat.lt_or_eq_of_le (Nat.le_of_lt_succ hi) with w | w
      · rw [h.rz y (inS y (List.mem_cons_of_mem _ hy)).1 i w, h.rz lead lr i w]; simp
      · rw [w, Int.mul_comm]; omega
  · intro x hx
    rcases List.mem_append.mp hx with z | z
    · rcases List.mem_append.mp z with z | z
      · exact h.l1 x (List.mem_append_left _ z)
      · rw [List.mem_singleton.mp z]; exact h.l1 _ (inR _ lr)
    · rcases List.mem_append.mp z with z | z
      · exact h.l1 x (inR _ (inZ x z).1)
      · obtain ⟨y, hy, rfl⟩ := List.mem_map.mp z
        have w := ((h.l1 y (inR _ (inS y (List.mem_cons_of_mem _ hy)).1)).mul (co lead c)).sub (co y c) (h.l1 lead (inR _ lr))
        have e : (fun i => co lead c * co y i - co lead i * co y c) = co (crossL lead y lead c) := funext fun i => by rw [co_cross (lo y hy), Int.mul_comm (co lead i)]
        rwa [e] at w
  · -- each old row, so many times
    have old : ∀ x ∈ found ++ rest, Lat (((found ++ [lead]) ++ ((rest.filter fun x => !nzB c x) ++ os.map fun x => crossL lead x lead c)).map co) (fun i => co lead c * co x i) := fun x hx => by
      have inN : ∀ y ∈ (found ++ [lead]) ++ ((rest.filter fun x => !nzB c x) ++ os.map fun x => crossL lead x lead c), Lat (((found ++ [lead]) ++ ((rest.filter fun x => !nzB c x) ++ os.map fun x => crossL lead x lead c)).map co) (co y) := fun y hy => .of (List.mem_map_of_mem hy)
      have il := inN lead (List.mem_append_left _ (List.mem_append_right _ List.mem_cons_self))
      rcases List.mem_append.mp hx with z | z
      · exact (inN x (List.mem_append_left _ (List.mem_append_left _ z))).mul _
      · by_cases y : nzB c x = true
        · have hx2 : x ∈ lead :: os := by rw [← he]; exact List.mem_filter.mpr ⟨z, y⟩
          rcases List.mem_cons.mp hx2 with w | w
          · rw [w]; exact il.mul _
          · have u := (inN _ (List.mem_append_right _ (List.mem_append_right _ (List.mem_map_of_mem (f := fun x => crossL lead x lead c) w)))).sub (-(co x c)) il
            have e : (fun i => co (crossL lead x lead c) i - co lead i * (-(co x c))) = fun i => co lead c * co x i := funext fun i => by rw [co_cross (lo x w), Int.mul_neg, Int.mul_comm (co lead i)]; omega
            rwa [e] at u
        · exact (inN x (List.mem_append_right _ (List.mem_append_left _ (List.mem_filter.mpr ⟨z, by simpa using y⟩)))).mul _
    intro g hg
    obtain ⟨D, hD, hl⟩ := h.l2 g hg
    refine ⟨co lead c * D, fun z => (Int.mul_eq_zero.mp z).elim lnz hD, ?_⟩
    have up : ∀ y, Lat ((found ++ rest).map co) y → Lat (((found ++ [lead]) ++ ((rest.filter fun x => !nzB c x) ++ os.map fun x => crossL lead x lead c)).map co) (fun i => co lead c * y i) := fun y hy => by
      induction hy with
      | zero => rw [show (fun i => co lead c * (fun _ : Nat => (0 : Int)) i) = (fun _ : Nat => (0 : Int)) from funext fun i => by simp]; exact .zero
      | @add y x k _ hx ih =>
        obtain ⟨x', hx', rfl⟩ := List.mem_map.mp hx
        have z := ih.sum ((old x' hx').mul k)
        have e : (fun i => co lead c * y i + k * (co lead c * co x' i)) = fun i => co lead c * (y i + k * co x' i) := funext fun i => by rw [Int.mul_add, Int.mul_left_comm k]
        rwa [e] at z
    have w := up _ hl
    have e : (fun i => co lead c * (D * co g i)) = fun i => co lead c * D * co g i := funext fun i => (Int.mul_assoc _ _ _).symm
    rwa [e] at w
  · intro x hx
    have upk : ∀ {x : List Int}, Sm (kB c) x → Sm (kB (c + 1)) x := fun s => s.up (kB_up _ _ (Nat.le_succ _))
    rcases List.mem_append.mp hx with z | z
    · rcases List.mem_append.mp z with z | z
      · exact upk (h.sm x (List.mem_append_left _ z))
      · rw [List.mem_singleton.mp z]; exact upk (h.sm _ (inR _ lr))
    · rcases List.mem_append.mp z with z | z
      · exact upk (h.sm x (inR _ (inZ x z).1))
      · obtain ⟨y, hy, rfl⟩ := List.mem_map.mp z
        exact cross_sm (lo y hy) c (h.sm _ (inR _ lr)) (h.sm y (inR _ (inS y (List.mem_cons_of_mem _ hy)).1))
/-- in the end: as many as the steps -/
theorem CutI.rank {m : Nat} {G found rest ms : List (List Int)} (h : CutI m m G found rest) (H : Hnf m G ms) : found.length = ms.length := by
  have zs : ∀ x ∈ rest, co x = fun _ => 0 := fun x hx => funext fun i => by
    by_cases c : i < m
    · exact h.rz x hx i c
    · exact co_out (by rw [h.len x (List.mem_append_right _ hx)]; omega)
  have dn : ∀ y, Lat ((found ++ rest).map co) y → Lat (found.map co) y := fun y hy => hy.mono fun g hg => by
    obtain ⟨x, hx, rfl⟩ := List.mem_map.mp hg
    rcases List.mem_append.mp hx with z | z
    · exact .of (List.mem_map_of_mem z)
    · rw [zs x z]; exact .zero
  have z := ech_rank h.ech H.ech (fun x hx => by
    obtain ⟨y, hy, rfl⟩ := List.mem_map.mp hx
    exact ⟨1, by decide, ((h.l1 y (List.mem_append_left _ hy)).mono fun g hg => by obtain ⟨u, hu, rfl⟩ := List.mem_map.mp hg; exact H.l2 u hu).mul 1⟩) (fun x hx => by
    obtain ⟨y, hy, rfl⟩ := List.mem_map.mp hx
    have key : ∀ u, Lat (G.map co) u → ∃ D : Int, D ≠ 0 ∧ Lat (found.map co) (fun i => D * u i) := fun u hu => by
      induction hu with
      | zero => exact ⟨1, by decide, by rw [show (fun i => (1 : Int) * (fun _ : Nat => (0 : Int)) i) = (fun _ : Nat => (0 : Int)) from funext fun i => by simp]; exact .zero⟩
      | @add v g k _ hg ih =>
        obtain ⟨D, hD, hl⟩ := ih
        obtain ⟨g', hg', rfl⟩ := List.mem_map.mp hg
        obtain ⟨D2, hD2, hl2⟩ := h.l2 g' hg'
        refine ⟨D * D2, fun z => (Int.mul_eq_zero.mp z).elim hD hD2, ?_⟩
        have w := (hl.mul D2).sum ((dn _ hl2).mul (D * k))
        have e : (fun i => D2 * (D * v i) + D * k * (D2 * co g' i)) = fun i => D * D2 * (v i + k * co g' i) := funext fun i => by
          rw [Int.mul_add, ← Int.mul_assoc D2, Int.mul_comm D2 D, ← Int.mul_assoc (D * k), ← Int.mul_assoc (D * D2) k, Int.mul_right_comm D k D2]
        rwa [e] at w
    exact key _ (H.l1 y hy))
  rw [List.length_map, List.length_map] at z
  exact z
end El
/-! How many steps rows have, whatever steps; rows crossed column by column, of any size. -/
namespace El
/-- what is left of a row at no first place -/
theorem Ech.reduce {n : Nat} {A : List Vc} (e : Ech n A) : ∀ z : Vc, ∃ D : Int, D ≠ 0 ∧ ∃ g, Lat A g ∧ (∀ a ∈ A, ∀ p, Fp a p → D * z p = g p) := by
  induction e with
  | nil => exact fun z => ⟨1, by decide, _, .zero, fun _ h => absurd h List.not_mem_nil⟩
  | @cons n p a A f l e ih =>
    intro z
    obtain ⟨D, hD, g, hg, w⟩ := ih (fun i => a p * z i + -(z p) * a i)
    refine ⟨D * a p, fun q => (Int.mul_eq_zero.mp q).elim hD f.nz, fun i => g i + D * z p * a i, (hg.sub_of fun u hu => List.mem_cons_of_mem a hu).sum ((Lat.of List.mem_cons_self).mul (D * z p)), fun u hu r fr => ?_⟩
    rcases List.mem_cons.mp hu with q | q
    · rw [q] at fr
      have := fr.uniq f
      subst this
      show D * a r * z r = g r + D * z r * a r
      rw [hg.zeros fun v hv => e.zero v hv r (Nat.lt_succ_self _), Int.mul_assoc, Int.mul_assoc, Int.mul_comm (a r)]; omega
    · have y := w u q r fr
      show D * a p * z r = g r + D * z p * a r
      rw [← y, Int.mul_add, Int.neg_mul, Int.mul_neg, Int.mul_assoc, Int.mul_assoc]; omega
/-- a multiple is a mixture -/
def Held (G : List Vc) (x : Vc) : Prop := ∃ D : Int, D ≠ 0 ∧ Lat G (fun i => D * x i)
theorem Lat.held {G : List Vc} {x : Vc} (h : Lat G x) : Held G x := ⟨1, by decide, h.mul 1⟩
theorem Held.zero {G : List Vc} : Held G (fun _ => 0) := Lat.held .zero
theorem Held.add {G : List Vc} {x y : Vc} (hx : Held G x) (hy : Held G y) (k : Int) : Held G (fun i => x i + k * y i) := by
  obtain ⟨D, hD, a⟩ := hx
  obtain ⟨E, hE, b⟩ := hy
  refine ⟨D * E, fun z => (Int.mul_eq_zero.mp z).elim hD hE, ?_⟩
  have z := (a.mul E).sum (b.mul (D * k))
  have e : (fun i => E * (D * x i) + D * k * (E * y i)) = fun i => D * E * (x i + k * y i) := funext fun i => by
    rw [Int.mul_add, ← Int.mul_assoc, Int.mul_comm E, ← Int.mul_assoc (D * k), ← Int.mul_assoc (D * E), Int.mul_right_comm D k]
  rwa [e] at z
theorem Held.lat {G G' : List Vc} {x : Vc} (h : ∀ g ∈ G, Held G' g) (hx : Lat G x) : Held G' x := by
  induction hx with
  | zero => exact .zero
  | @add y g k _ hg ih => exact ih.add (h g hg) k
theorem Held.of_mul {G : List Vc} {x : Vc} {D : Int} (hD : D ≠ 0) (h : Held G (fun i => D * x i)) : Held G x := by
  obtain ⟨E, hE, a⟩ := h
  refine ⟨E * D, fun z => (Int.mul_eq_zero.mp z).elim hE hD, ?_⟩
  have e : (fun i => E * (D * x i)) = fun i => E * D * x i := funext fun i => (Int.mul_assoc _ _ _).symm
  rwa [e] at a
theorem Held.mono {G G' : List Vc} {x : Vc} (h : ∀ g ∈ G, Held G' g) (hx : Held G x) : Held G' x := by
  obtain ⟨D, hD, a⟩ := hx
  exact .of_mul hD (Held.lat h a)
theorem Held.mul {G : List Vc} {x : Vc} (h : Held G x) (k : Int) : Held G (fun i => k * x i) := by
  have z := Held.zero.add h k
  have e : (fun i => (fun _ : Nat => (0 : Int)) i + k * x i) = fun i => k * x i := funext fun i => by simp
  rwa [e] at z
/-- rows have n steps -/
def RankOf (G : List Vc) (n : Nat) : Prop := ∃ E : List Vc, Ech 0 E ∧ E.length = n ∧ (∀ e ∈ E, Held G e) ∧ ∀ g ∈ G, Held E g
theorem RankOf.uniq {G G' : List Vc} {n n' : Nat} (h : RankOf G n) (h' : RankOf G' n') (a : ∀ g ∈ G, Held G' g) (b : ∀ g ∈ G', Held G g) : n = n' := by
  obtain ⟨E, e1, e2, e3, e4⟩ := h
  obtain ⟨E', f1, f2, f3, f4⟩ := h'
  rw [← e2, ← f2]
  exact ech_rank e1 f1 (fun x hx => (e3 x hx).mono fun g hg => (a g hg).mono f4) fun x hx => (f3 x hx).mono fun g hg => (b g hg).mono e4
theorem RankOf.same {G : List Vc} {n n' : Nat} (h : RankOf G n) (h' : RankOf G n') : n = n' := h.uniq h' (fun g hg => (Lat.of hg).held) fun g hg => (Lat.of hg).held
theorem Tri.snoc {q : Nat} {x : Vc} (hx : x q ≠ 0) : ∀ {ps : List Nat} {xs : List Vc}, Tri ps xs → (∀ p ∈ ps, x p = 0) → Tri (ps ++ [q]) (xs ++ [x])
  | _, _, .nil, _ => .cons hx (fun _ h => absurd h List.not_mem_nil) .nil
  | _, _, .cons a b t, h => .cons a (fun y hy => by
      rcases List.mem_append.mp hy with z | z
      · exact b y z
      · rw [List.mem_singleton.mp z]; exact h _ List.mem_cons_self) (t.snoc hx fun p hp => h p (List.mem_cons_of_mem _ hp))
/-- as many steps with a further row: it is held -/
theorem RankOf.held {G : List Vc} {x : Vc} {n n' : Nat} (h : RankOf G n) (h' : RankOf (G ++ [x]) n') : n' = n ↔ Held G x := by
  constructor
  · intro e
    obtain ⟨E, e1, e2, e3, e4⟩ := h
    obtain ⟨E', f1, f2, f3, f4⟩ := h'
    obtain ⟨D, hD, g, hg, w⟩ := e1.reduce x
    refine Classical.byContradiction fun nh => ?_
    have nz : ∃ i, D * x i - g i ≠ 0 := Classical.byContradiction fun z => by
      refine nh (Held.mono e3 ⟨D, hD, ?_⟩)
      have ee : (fun i => D * x i) = g := funext fun i => by
        have : ¬ (D * x i - g i ≠ 0) := fun y => z ⟨i, y⟩
        omega
      rw [ee]; exact hg
    obtain ⟨q, hq⟩ := nz
    obtain ⟨ps, t, p1, p2⟩ := e1.tri
    have t2 := t.snoc (q := q) (x := fun i => D * x i - g i) hq fun p hp => by
      obtain ⟨a, ha, fa⟩ := p1 p hp
      have := w a ha p fa
      show D * x p - g p = 0
      omega
    have hx : Held (G ++ [x]) x := (Lat.of (List.mem_append_right _ List.mem_cons_self)).held
    have up : ∀ y, Held G y → Held (G ++ [x]) y := fun y hy => hy.mono fun g hg => (Lat.of (List.mem_append_left _ hg)).held
    have l := t2.le (G := E') fun s hs => by
      refine Held.mono f4 ?_
      rcases List.mem_append.mp hs with z | z
      · exact up s (e3 s z)
      · rw [List.mem_singleton.mp z]
        have y := (hx.mul D).add (up g (Held.lat e3 hg)) (-1)
        have ee : (fun i => D * x i + -1 * g i) = fun i => D * x i - g i := funext fun i => by omega
        rwa [ee] at y
    rw [List.length_append, List.length_singleton] at l
    omega
  · intro hx
    refine h'.uniq h (fun g hg => ?_) fun g hg => (Lat.of (List.mem_append_left _ hg)).held
    rcases List.mem_append.mp hg with z | z
    · exact (Lat.of z).held
    · rw [List.mem_singleton.mp z]; exact hx
/-! ### rows crossed -/
def kG (e : Nat) : Nat → Nat
  | 0 => e
  | c + 1 => 2 * kG e c + 1
theorem kG_up (e : Nat) : ∀ {c d : Nat}, c ≤ d → kG e c ≤ kG e d := fun {c d} h => by
  induction h with
  | refl => exact Nat.le_refl _
  | step _ ih => exact Nat.le_trans ih (by show _ ≤ 2 * kG _ _ + 1; omega)
theorem kG_is (e : Nat) : ∀ c, kG e c + 1 = (e + 1) * 2 ^ c
  | 0 => by simp [kG]
  | c + 1 => by
    have := kG_is e c
    show 2 * kG e c + 1 + 1 = (e + 1) * 2 ^ (c + 1)
    rw [Nat.pow_succ, ← Nat.mul_assoc, ← this]; omega
/-- the columns crossed so far -/
structure CutG (m e c : Nat) (G found rest : List (List Int)) : Prop where
  len : ∀ x ∈ found ++ rest, x.length = m
  ech : Ech 0 (found.map co)
  bel : ∀ x ∈ found, ∃ p, Fp (co x) p ∧ p < c
  rz : ∀ x ∈ rest, ∀ i < c, co x i = 0
  l1 : ∀ x ∈ found ++ rest, Lat (G.map co) (co x)
  l2 : ∀ g ∈ G, Held ((found ++ rest).map co) (co g)
  sm : ∀ x ∈ found ++ rest, Sm (kG e c) x
theorem CutG.start {m e : Nat} {G : List (List Int)} (hl : ∀ g ∈ G, g.length = m) (hs : ∀ g ∈ G, Sm e g) : CutG m e 0 G [] G :=
  ⟨hl, .nil, fun _ h => absurd h List.not_mem_nil, fun _ _ i h => absurd h (Nat.not_lt_zero _), fun x hx => .of (List.mem_map_of_mem hx), fun g hg => (Lat.of (List.mem_map_of_mem (f := co) (show g ∈ [] ++ G from hg))).held, hs⟩
theorem CutG.skip {m e c : Nat} {G found rest : List (List Int)} (h : CutG m e c G found rest) (hz : ∀ x ∈ rest, co x c = 0) : CutG m e (c + 1) G found rest :=
  ⟨h.len, h.ech, fun x hx => by obtain ⟨p, f, l⟩ := h.bel x hx; exact ⟨p, f, by omega⟩, fun x hx i hi => by
    rcases Nat.lt_or_eq_of_le (Nat.le_of_lt_succ hi) with z | z
    · exact h.rz x hx i z
    · rw [z]; exact hz x hx, h.l1, h.l2, fun x hx => (h.sm x hx).up (kG_up e (Nat.le_succ _))⟩
theorem CutG.next {m e c : Nat} {G found rest : List (List Int)} {lead : List Int} {os : List (List Int)} (h : CutG m e c G found rest) (he : rest.filter (nzB c) = lead :: os) :
    CutG m e (c + 1) G (found ++ [lead]) ((rest.filter fun x => !nzB c x) ++ os.map fun x => crossL lead x lead c) := by
  have inS : ∀ x ∈ lead :: os, x ∈ rest ∧ co x c ≠ 0 := fun x hx => by
    rw [← he] at hx
    obtain ⟨h1, h2⟩ := List.mem_filter.mp hx
    exact ⟨h1, of_decide_eq_true h2⟩
  have inZ : ∀ x ∈ rest.filter (fun x => !nzB c x), x ∈ rest ∧ co x c = 0 := fun x hx => by
    obtain ⟨h1, h2⟩ := List.mem_filter.mp hx
    refine ⟨h1, ?_⟩
    by_cases z : co x c = 0
    · exact z
    · have : nzB c x = true := decide_eq_true z
      rw [this] at h2
      cases h2
  have inR : ∀ x ∈ rest, x ∈ found ++ rest := fun x hx => List.mem_append_right _ hx
  obtain ⟨lr, lnz⟩ := inS lead List.mem_cons_self
  have ll := h.len lead (inR _ lr)
  have lo : ∀ x ∈ os, x.length = lead.length := fun x hx => (h.len x (inR _ (inS x (List.mem_cons_of_mem _ hx)).1)).trans ll.symm
  have fl : Fp (co lead) c := ⟨lnz, h.rz lead lr⟩
  refine ⟨?_, ?_, ?_, ?_, ?_, ?_, ?_⟩
  · intro x hx
    rcases List.mem_append.mp hx with z | z
    · rcases List.mem_append.mp z with z | z
      · exact h.len x (List.mem_append_left _ z)
      · rw [List.mem_singleton.mp z]; exact ll
    · rcases List.mem_append.mp z with z | z
      · exact h.len x (inR _ (inZ x z).1)
      · obtain ⟨y, hy, rfl⟩ := List.mem_map.mp z
        rw [cross_len (lo y hy), lo y hy, ll]
  · rw [List.map_append]
    refine h.ech.snoc (fun x hx => ?_) fl (Nat.zero_le _)
    obtain ⟨y, hy, rfl⟩ := List.mem_map.mp hx
    exact h.bel y hy
  · intro x hx
    rcases List.mem_append.mp hx with z | z
    · obtain ⟨p, f, l⟩ := h.bel x z
      exact ⟨p, f, by omega⟩
    · rw [List.mem_singleton.mp z]; exact ⟨c, fl, Nat.lt_succ_self _⟩
  · intro x hx i hi
    rcases List.mem_append.mp hx with z | z
    · obtain ⟨z1, z2⟩ := inZ x z
      rcases Nat.lt_or_eq_of_le (Nat.le_of_lt_succ hi) with y | y
      · exact h.rz x z1 i y
      · rw [y]; exact z2
    · obtain ⟨y, hy, rfl⟩ := List.mem_map.mp z
      rw [co_cross (lo y hy)]
      rcases Nat.lt_or_eq_of_le (Nat.le_of_lt_succ hi) with w | w
      · rw [h.rz y (inS y (List.mem_cons_of_mem _ hy)).1 i w, h.rz lead lr i w]; simp
      · rw [w, Int.mul_comm]; omega
  · intro x hx
    rcases List.mem_append.mp hx with z | z
    · rcases List.mem_append.mp z with z | z
      · exact h.l1 x (List.mem_append_left _ z)
      · rw [List.mem_singleton.mp z]; exact h.l1 _ (inR _ lr)
    · rcases List.mem_append.mp z with z | z
      · exact h.l1 x (inR _ (inZ x z).1)
      · obtain ⟨y, hy, rfl⟩ := List.mem_map.mp z
        have w := ((h.l1 y (inR _ (inS y (List.mem_cons_of_mem _ hy)).1)).mul (co lead c)).sub (co y c) (h.l1 lead (inR _ lr))
        have e : (fun i => co lead c * co y i - co lead i * co y c) = co (crossL lead y lead c) := funext fun i => by rw [co_cross (lo y hy), Int.mul_comm (co lead i)]
        rwa [e] at w
  · have inN : ∀ y ∈ (found ++ [lead]) ++ ((rest.filter fun x => !nzB c x) ++ os.map fun x => crossL lead x lead c), Lat (((found ++ [lead]) ++ ((rest.filter fun x => !nzB c x) ++ os.map fun x => crossL lead x lead c)).map co) (co y) := fun y hy => .of (List.mem_map_of_mem hy)
    have il := inN lead (List.mem_append_left _ (List.mem_append_right _ List.mem_cons_self))
    have old : ∀ x ∈ (found ++ rest).map co, Held (((found ++ [lead]) ++ ((rest.filter fun x => !nzB c x) ++ os.map fun x => crossL lead x lead c)).map co) x := fun x0 hx0 => by
      obtain ⟨x, hx, rfl⟩ := List.mem_map.mp hx0
      rcases List.mem_append.mp hx with z | z
      · exact (inN x (List.mem_append_left _ (List.mem_append_left _ z))).held
      · by_cases y : nzB c x = true
        · have hx2 : x ∈ lead :: os := by rw [← he]; exact List.mem_filter.mpr ⟨z, y⟩
          rcases List.mem_cons.mp hx2 with w | w
          · rw [w]; exact il.held
          · refine ⟨co lead c, lnz, ?_⟩
            have u := (inN _ (List.mem_append_right _ (List.mem_append_right _ (List.mem_map_of_mem (f := fun x => crossL lead x lead c) w)))).sub (-(co x c)) il
            have e : (fun i => co (crossL lead x lead c) i - co lead i * (-(co x c))) = fun i => co lead c * co x i := funext fun i => by rw [co_cross (lo x w), Int.mul_neg, Int.mul_comm (co lead i)]; omega
            rwa [e] at u
        · exact (inN x (List.mem_append_right _ (List.mem_append_left _ (List.mem_filter.mpr ⟨z, by simpa using y⟩)))).held
    exact fun g hg => (h.l2 g hg).mono old
  · intro x hx
    have upk : ∀ {x : List Int}, Sm (kG e c) x → Sm (kG e (c + 1)) x := fun s => s.up (kG_up e (Nat.le_succ _))
    rcases List.mem_append.mp hx with z | z
    · rcases List.mem_append.mp z with z | z
      · exact upk (h.sm x (List.mem_append_left _ z))
      · rw [List.mem_singleton.mp z]; exact upk (h.sm _ (inR _ lr))
    · rcases List.mem_append.mp z with z | z
      · exact upk (h.sm x (inR _ (inZ x z).1))
      · obtain ⟨y, hy, rfl⟩ := List.mem_map.mp z
        exact cross_sm (lo y hy) c (h.sm _ (inR _ lr)) (h.sm y (inR _ (inS y (List.mem_cons_of_mem _ hy)).1))
theorem CutG.rank {m e : Nat} {G found rest : List (List Int)} (h : CutG m e m G found rest) : RankOf (G.map co) found.length := by
  have zs : ∀ x ∈ rest, co x = fun _ => 0 := fun x hx => funext fun i => by
    by_cases c : i < m
    · exact h.rz x hx i c
    · exact co_out (by rw [h.len x (List.mem_append_right _ hx)]; omega)
  refine ⟨found.map co, h.ech, List.length_map _, fun x hx => ?_, fun g hg => ?_⟩
  · obtain ⟨y, hy, rfl⟩ := List.mem_map.mp hx
    exact (h.l1 y (List.mem_append_left _ hy)).held
  · obtain ⟨y, hy, rfl⟩ := List.mem_map.mp hg
    refine (h.l2 y hy).mono fun u hu => ?_
    obtain ⟨x, hx, rfl⟩ := List.mem_map.mp hu
    rcases List.mem_append.mp hx with z | z
    · exact (Lat.of (List.mem_map_of_mem z)).held
    · rw [zs x z]; exact .zero
theorem Held.inM {m : Nat} {G : List Vc} {x : Vc} (h : ∀ g ∈ G, In m g) (hx : Held G x) : In m x := fun i hi => by
  obtain ⟨D, hD, hl⟩ := hx
  exact (Int.mul_eq_zero.mp (hl.inM h i hi)).resolve_left hD
/-! ### units -/
def unitsL (m : Nat) : List (List Int) := (List.range m).map (unitOf m)
theorem units_len (m : Nat) : (unitsL m).length = m := by unfold unitsL; rw [List.length_map, List.length_range]
theorem units_at {m k : Nat} (h : k < (unitsL m).length) : (unitsL m)[k] = unitOf m k := by
  show (List.map (unitOf m) (List.range m))[k]'(h) = _
  exact (List.getElem_map ..).trans (by rw [List.getElem_range])
theorem unit_fp {m k : Nat} (h : k < m) : Fp (co (unitOf m k)) k := ⟨by rw [unit_co h, if_pos rfl]; decide, fun i hi => by rw [unit_co h, if_neg (by omega)]⟩
theorem units_ech (m : Nat) : Ech 0 ((unitsL m).map co) := by
  have key : ∀ k n, n + k = m → Ech n (((List.range' n k).map (unitOf m)).map co) := fun k => by
    induction k with
    | zero => intro n _; exact .nil
    | succ k ih =>
      intro n hn
      rw [List.range'_succ, List.map_cons, List.map_cons]
      exact .cons (unit_fp (by omega)) (Nat.le_refl _) (ih (n + 1) (by omega))
  have z := key m 0 (by omega)
  unfold unitsL
  rw [List.range_eq_range']
  exact z
theorem units_lat {m : Nat} {x : Vc} (hx : In m x) : Lat ((unitsL m).map co) x := by
  have key : ∀ k, k ≤ m → Lat ((unitsL m).map co) (fun i => if i < k then x i else 0) := fun k => by
    induction k with
    | zero =>
      intro _
      have e : (fun i => if i < 0 then x i else 0) = fun _ : Nat => (0 : Int) := funext fun i => if_neg (Nat.not_lt_zero _)
      rw [e]; exact .zero
    | succ k ih =>
      intro hk
      have hl : k < (unitsL m).length := by rw [units_len]; omega
      have z := (ih (by omega)).add (x k) (List.mem_map_of_mem (f := co) (List.getElem_mem hl))
      have e : (fun i => (fun i => if i < k then x i else 0) i + x k * co (unitsL m)[k] i) = fun i => if i < k + 1 then x i else 0 := funext fun i => by
        show (if i < k then x i else 0) + x k * co (unitsL m)[k] i = _
        rw [units_at, unit_co (by omega)]
        rcases Nat.lt_trichotomy i k with c | c | c
        · rw [if_pos c, if_neg (by omega), if_pos (by omega)]; simp
        · rw [if_neg (by omega), if_pos c, if_pos (by omega), c]; simp
        · rw [if_neg (by omega), if_neg (by omega), if_neg (by omega)]; simp
      rwa [e] at z
  have z := key m (Nat.le_refl _)
  have e : (fun i => if i < m then x i else 0) = x := funext fun i => by
    split
    · rfl
    · exact (hx i (by omega)).symm
  rwa [e] at z
theorem units_hnf (m : Nat) : Hnf m (unitsL m) (unitsL m) := by
  refine ⟨fun x hx => ?_, Nat.le_refl _, units_ech m, fun x hx => .of (List.mem_map_of_mem hx), fun x hx => .of (List.mem_map_of_mem hx), fun x hx q f => ?_, ?_⟩
  · obtain ⟨k, _, rfl⟩ := List.mem_map.mp hx
    unfold unitOf; rw [List.length_map, List.length_range]
  · obtain ⟨k, hk, rfl⟩ := List.mem_map.mp hx
    have fk := unit_fp (List.mem_range.mp hk)
    have := f.uniq fk
    subst this
    rw [unit_co (List.mem_range.mp hk), if_pos rfl]; decide
  · refine List.pairwise_iff_getElem.mpr fun i j hi hj l q f => ?_
    rw [units_at] at f
    rw [units_at, units_at]
    rw [units_len] at hi hj
    have := f.uniq (unit_fp hj)
    subst this
    rw [unit_co hi, unit_co hj, if_neg (by omega), if_pos rfl]
    exact ⟨Int.le_refl _, by decide⟩
/-- what has all rows as mixtures: the units -/
theorem Hnf.units {m : Nat} {G F : List (List Int)} (h : Hnf m G F) (e : ∀ x, In m x → Lat (F.map co) x) : F = unitsL m := by
  refine h.uniq (units_hnf m) (fun x hx => units_lat (hx.inM fun g hg => (h.up g hg).inM h.inM)) fun x hx => (e x (hx.inM fun g hg => ?_)).mono h.dn
  obtain ⟨y, hy, rfl⟩ := List.mem_map.mp hg
  exact co_in ((units_hnf m).len y hy)
end El
/-! What is said of a law's own defs on rows, whatever the law. -/
namespace Rw
open PySem PySem.Spec PyProof.Rows L2 Pd El

theorem log_small {n : Int} (h : 0 < n) (h2 : n ≤ 1000000000000) : n.natAbs.log2 < 9000 := Nat.lt_trans (log2_of (k := 40) (by omega) (by decide)) (by decide)

def ixOf : Da → Bool
  | .lst _ => true
  | .tup _ => true
  | _ => false

theorem atD {xs : List Da} {r : Int} (h1 : 0 ≤ r) (h2 : r.toNat < xs.length) : L2.atI xs r = some xs[r.toNat] := by
  have e : r = ((r.toNat : Nat) : Int) := by omega
  have z := at_da h2
  rw [← e] at z
  exact z

theorem mixF_snoc : ∀ (G : List (List Int)) (g : List Int) (c : Nat → Int) (i : Nat), mixF c (G ++ [g]) i = mixF c G i + c G.length * co g i
  | [], g, c, i => by show c 0 * co g i + 0 = 0 + c 0 * co g i; omega
  | h :: G, g, c, i => by
    show c 0 * co h i + mixF (fun k => c (k + 1)) (G ++ [g]) i = c 0 * co h i + mixF (fun k => c (k + 1)) G i + c (G.length + 1) * co g i
    rw [mixF_snoc G g]; omega

def lstD (x : List Int) : Da := .lst (x.map .int)

theorem mulA {a b : Int} {e f : Nat} (ha : a.natAbs < 2 ^ e) (hb : b.natAbs < 2 ^ f) (h : e + f ≤ 900000) : CMulA a b := by
  refine .inr ?_
  have l1 := log_pow (x := a) (e := e + 1) (Nat.lt_of_lt_of_le ha (Nat.pow_le_pow_right (by decide) (by omega))) (by omega)
  have l2 := log_pow (x := b) (e := f + 1) (Nat.lt_of_lt_of_le hb (Nat.pow_le_pow_right (by decide) (by omega))) (by omega)
  unfold CMulW
  omega

def pAlike : DSp := fun ds Q => ∃ (x : Da) (n c : Nat), ds = [x, x] ∧ Sz x n c ∧ n ≤ 60 ∧ c ≤ 16777216 ∧ Q (.bl true)

theorem pAlike_mo : MoP pAlike := fun _ _ _ q ⟨x, n, c, e, a, b, d, z⟩ => ⟨x, n, c, e, a, b, d, q _ z⟩

def pOne : DSp := fun ds Q => ∃ x xs, ds = [.bag, x] ∧ seqOf x = some xs ∧ ixOf x = true ∧ xs ≠ [] ∧ xs.length ≤ 63 ∧ ∀ d ∈ xs, Q d

theorem pOne_mo : MoP pOne := fun _ _ _ q ⟨x, xs, e, a, b, c, d, z⟩ => ⟨x, xs, e, a, b, c, d, fun t h => q _ (z t h)⟩

def pMix : DSp := fun ds Q => ∃ (m e : Nat) (G : List (List Int)) (c : List Int), ds = [.lst (G.map rwD), .lst (c.map .int), .int (m : Nat)] ∧ m ≤ 40 ∧ G.length ≤ 40 ∧ c.length = G.length ∧ (∀ g ∈ G, g.length = m) ∧ (∀ g ∈ G, ∀ i, (co g i).natAbs ≤ 30) ∧ El.Sm e c ∧ e ≤ 800000 ∧
  ∀ r : List Int, r.length = m → (∀ i < m, co r i = mixF (co c) G i) → Q (rwD r)

theorem pMix_mo : MoP pMix := fun _ _ _ q ⟨m, e, G, c, h1, h2, h3, h4, h5, h6, h7, h8, z⟩ => ⟨m, e, G, c, h1, h2, h3, h4, h5, h6, h7, h8, fun r a b => q _ (z r a b)⟩

def pLLess : DSp := fun ds Q => ∃ (x y : List Int) (k : Int), ds = [lstD x, .int 1, lstD y, .int k] ∧ x.length = y.length ∧ x.length ≤ 63 ∧ (∀ a ∈ x, CMulA 1 a) ∧ (∀ a ∈ y, CMulA k a) ∧ Q (lstD (takenL x (timesL y k)))

theorem pLLess_mo : MoP pLLess := fun _ _ _ q ⟨x, y, k, h1, h2, h3, h4, h5, z⟩ => ⟨x, y, k, h1, h2, h3, h4, h5, q _ z⟩

theorem rows_at {X : List (List Int)} {k : Nat} (h : k < X.length) : L2.atI (X.map lstD) ((k : Nat) : Int) = some (lstD X[k]) := by
  refine L2.atI_nat ?_
  rw [List.getElem?_map, List.getElem?_eq_getElem h]; rfl

def lawInner : TDS :=
  dSeq (dSet (dCall pLLess (dCons (dVar 9) (dCons (dC (Da.int 1)) (dCons (dVar 7) (dCons (dOp fdivZD (dOp ixD (dVar 9) (dVar 3)) (dOp ixD (dVar 7) (dVar 3))) dNil))))) 10)
  (dSeq (dSet (dOp addD (dVar 4) (dOp repD (dLst (dCons (dVar 10) dNil)) (dCall intFD (dCons (dOp (eqD true) (dOp ixD (dVar 10) (dVar 3)) (dC (Da.int 0))) dNil)))) 4)
  (dSet (dOp addD (dVar 2) (dOp repD (dLst (dCons (dVar 10) dNil)) (dCall intFD (dCons (dOp (eqD false) (dOp ixD (dVar 10) (dVar 3)) (dC (Da.int 0))) dNil)))) 2))

def lawTurn : TDS :=
  dSeq (dSet (dLc (dItL (dVar 4)) (dgName 9) dYes (dCall absD (dCons (dOp ixD (dVar 9) (dVar 3)) dNil)) [9]) 5)
  (dSeq (dSet (dIndexI (dVar 5) (dCall minLD (dCons (dVar 5) dNil))) 6)
  (dSeq (dPar 7 8 (dOp ixD (dVar 4) (dVar 6)) (dOp addD (dSl (dVar 4) dNoP (dPart (dVar 6))) (dSl (dVar 4) (dPart (dOp addD (dVar 6) (dC (Da.int 1)))) dNoP)))
  (dSeq (dSet (dLst (dCons (dVar 7) dNil)) 4)
  (dFor (dItL (dVar 8)) (dgName 9) lawInner))))

theorem first_at : ∀ {is : List Int} {a : Int}, a ∈ is → ∃ j : Nat, is[j]? = some a ∧ ∀ m < j, is[m]? ≠ some a
  | [], _, h => absurd h List.not_mem_nil
  | x :: is, a, h => by
    by_cases e : x = a
    · exact ⟨0, by rw [← e]; rfl, fun m hm => absurd hm (Nat.not_lt_zero _)⟩
    · obtain ⟨j, h1, h2⟩ := first_at ((List.mem_cons.mp h).resolve_left fun z => e z.symm)
      refine ⟨j + 1, by simpa using h1, fun m hm => ?_⟩
      cases m with
      | zero => intro z; exact e (Option.some.inj z)
      | succ m => simpa using h2 m (by omega)

/-- [later] * int(b) -/
theorem rep_bool {x : Da} {b : Bool} : (List.replicate (if b then (1 : Int) else 0).toNat [x]).flatten = if b then [x] else [] := by
  cases b <;> rfl

theorem law_inner {c : Nat} {E : EnD} {x lead : List Int} {so re : List Da} {r0 r1 r5 r6 r8 r10 : Sl} (hl : x.length = lead.length) (hx : x.length ≤ 63) (hc : c < x.length) (hd : CDivZ (co x c) (co lead c)) (m1 : ∀ a ∈ x, CMulA 1 a) (m2 : ∀ a ∈ lead, CMulA ((co x c).fdiv (co lead c)) a) (hs : so.length ≤ 100) (hr : re.length ≤ 100)
    (k : ∀ r10 : Sl, E.nx [r0, r1, .dat (.lst (re ++ if nzB c (lessL x lead c) then [] else [lstD (lessL x lead c)])), .dat (.int (c : Nat)), .dat (.lst (so ++ if nzB c (lessL x lead c) then [lstD (lessL x lead c)] else [])), r5, r6, .dat (lstD lead), r8, .dat (lstD x), r10]) :
    lawInner E [r0, r1, .dat (.lst re), .dat (.int (c : Nat)), .dat (.lst so), r5, r6, .dat (lstD lead), r8, .dat (lstD x), r10] := by
  refine ⟨_, rfl, _, rfl, _, rfl, _, rfl, .int (co x c), row_at hc, _, rfl, _, rfl, .int (co lead c), row_at (hl ▸ hc), hd, x, lead, _, rfl, hl, hx, m1, m2, ?_⟩
  have ll : (lessL x lead c).length = x.length := less_len hl c
  have ca : ∀ b : Bool, (-(2 ^ 63) ≤ (if b then (1 : Int) else 0) ∧ (if b then (1 : Int) else 0) < 2 ^ 63) ∧ 1 * (if b then (1 : Int) else 0).toNat ≤ sizeLine ∧ ∀ n : Nat, n ≤ 100 → n + (List.replicate (if b then (1 : Int) else 0).toNat [lstD (lessL x lead c)]).flatten.length ≤ sizeLine := fun b => by
    cases b
    · exact ⟨⟨by decide, by decide⟩, by decide, fun n hn => by rw [sizeLine_eq]; show n + 0 ≤ _; omega⟩
    · exact ⟨⟨by decide, by decide⟩, by decide, fun n hn => by rw [sizeLine_eq]; show n + 1 ≤ _; omega⟩
  have b1 : (if true = true then !eqd (.int (co (lessL x lead c) c)) (.int 0) else eqd (.int (co (lessL x lead c) c)) (.int 0)) = nzB c (lessL x lead c) := by
    rw [if_pos rfl, eqd_int]
    unfold nzB
    rw [Bool.eq_iff_iff, decide_eq_true_eq]
    simp
  have b2 : (if false = true then !eqd (.int (co (lessL x lead c) c)) (.int 0) else eqd (.int (co (lessL x lead c) c)) (.int 0)) = !nzB c (lessL x lead c) := by
    rw [if_neg Bool.false_ne_true, eqd_int]
    unfold nzB
    rw [Bool.eq_iff_iff]
    simp
  refine ⟨_, rfl, _, rfl, (by show 1 ≤ sizeLine; decide), _, rfl, _, rfl, .int (co (lessL x lead c) c), row_at (x := lessL x lead c) (by omega), shp_int _, shp_int _, .inr ⟨_, rfl, ?_⟩⟩
  rw [b1]
  obtain ⟨⟨c1, c2⟩, c3, c4⟩ := ca (nzB c (lessL x lead c))
  refine ⟨c1, c2, c3, c4 _ hs, ?_⟩
  rw [rep_bool]
  refine ⟨_, rfl, _, rfl, (by show 1 ≤ sizeLine; decide), _, rfl, _, rfl, .int (co (lessL x lead c) c), row_at (x := lessL x lead c) (by omega), shp_int _, shp_int _, .inr ⟨_, rfl, ?_⟩⟩
  rw [b2]
  obtain ⟨⟨d1, d2⟩, d3, d4⟩ := ca (!nzB c (lessL x lead c))
  refine ⟨d1, d2, d3, d4 _ hr, ?_⟩
  rw [rep_bool]
  have z := k (.dat (lstD (lessL x lead c)))
  have e : (if (!nzB c (lessL x lead c)) = true then [lstD (lessL x lead c)] else []) = if nzB c (lessL x lead c) = true then [] else [lstD (lessL x lead c)] := by
    cases nzB c (lessL x lead c) <;> rfl
  rw [← e] at z
  exact z

theorem filter_two (p : List Int → Bool) : ∀ L : List (List Int), (L.filter p).length + (L.filter fun x => !p x).length = L.length
  | [] => rfl
  | x :: L => by
    have ih := filter_two p L
    rw [List.filter_cons, List.filter_cons]
    cases p x
    · simp only [Bool.not_false, if_true, Bool.false_eq_true, if_false, List.length_cons]; omega
    · simp only [Bool.not_true, if_true, Bool.false_eq_true, if_false, List.length_cons]; omega

theorem law_turn {m c : Nat} {T : List Vc} {found some rest : List (List Int)} {E : EnD} {r0 r1 r5 r6 r7 r8 r9 r10 : Sl} (t : Turn m c T found some rest) (h2 : 1 < some.length) (hm : m ≤ 6) (hc : c < m) (hcnt : some.length + rest.length ≤ 40)
    (k : ∀ (some' rest' : List (List Int)) (r5 r6 r7 r8 r9 r10 : Sl), Turn m c T found some' rest' → szs c some' < szs c some → some'.length + rest'.length = some.length + rest.length → E.nx [r0, r1, .dat (.lst (rest'.map lstD)), .dat (.int (c : Nat)), .dat (.lst (some'.map lstD)), r5, r6, r7, r8, r9, r10]) :
    lawTurn E [r0, r1, .dat (.lst (rest.map lstD)), .dat (.int (c : Nat)), .dat (.lst (some.map lstD)), r5, r6, r7, r8, r9, r10] := by
  have lens : ∀ x ∈ some, x.length = m := fun x hx => t.col.len x (List.mem_append_left _ (List.mem_append_right _ hx))
  have absE : ∀ i : Int, (if i < 0 then -i else i) = ((i.natAbs : Nat) : Int) := fun i => by split <;> omega
  refine ⟨_, rfl, _, rfl, ?_⟩
  refine lcD_mapM lstD (fun x => Da.int ((co x c).natAbs : Nat)) some (by omega) (fun x hx R hR => ?_) ?_
  · refine ⟨_, rfl, _, rfl, .int (co x c), row_at (by rw [lens x hx]; exact hc), _, rfl, ?_⟩
    rw [absE]
    exact hR
  have em : some.map (fun x => Da.int ((co x c).natAbs : Nat)) = (some.map fun x => (((co x c).natAbs : Nat) : Int)).map .int := by rw [List.map_map]; rfl
  have ne : some.map (fun x => (((co x c).natAbs : Nat) : Int)) ≠ [] := fun z => by
    have := congrArg List.length z
    rw [List.length_map, List.length_nil] at this
    omega
  rw [em]
  refine ⟨_, rfl, some.map fun x => (((co x c).natAbs : Nat) : Int), rfl, _, rfl, some.map fun x => (((co x c).natAbs : Nat) : Int), rfl, ne, fun mn h1 hmn => ?_⟩
  obtain ⟨j, hj, hno⟩ := first_at h1
  refine ⟨mn, j, rfl, hj, hno, ?_⟩
  rw [List.getElem?_map] at hj
  obtain ⟨lead, hlead, emn⟩ := Option.map_eq_some_iff.mp hj
  have jl : j < some.length := (List.getElem?_eq_some_iff.mp hlead).1
  have el : some[j] = lead := by rw [List.getElem?_eq_getElem jl] at hlead; exact Option.some.inj hlead
  have ed : some = some.take j ++ lead :: some.drop (j + 1) := by rw [← el, ← List.drop_eq_getElem_cons jl, List.take_append_drop]
  have hmin : ∀ x ∈ some, (co lead c).natAbs ≤ (co x c).natAbs := fun x hx => by
    have := hmn _ (List.mem_map_of_mem (f := fun x => (((co x c).natAbs : Nat) : Int)) hx)
    omega
  have c1 : Pd.cutD (some.map lstD) none (Option.some ((j : Nat) : Int)) = (some.take j).map lstD := by rw [cutD_to, List.map_take]
  have c2 : Pd.cutD (some.map lstD) (Option.some (((j : Nat) : Int) + 1)) none = (some.drop (j + 1)).map lstD := by
    rw [show ((j : Nat) : Int) + 1 = ((j + 1 : Nat) : Int) from rfl, cutD_from _ (by rw [List.length_map]; omega), List.map_drop]
  have lat : L2.atI (some.map lstD) ((j : Nat) : Int) = Option.some (lstD lead) := by rw [rows_at jl, el]
  refine ⟨_, rfl, _, rfl, lstD lead, lat, _, rfl, _, rfl, _, rfl, _, rfl, _, rfl, _, rfl, ?_⟩
  have hA : (some.take j).length = j := by rw [List.length_take]; omega
  have hB : (some.drop (j + 1)).length = some.length - (j + 1) := List.length_drop
  generalize some.take j = A at ed c1 hA
  generalize some.drop (j + 1) = B at ed c2 hB
  refine ⟨?_, ?_⟩
  · rw [c1, c2, List.length_map, List.length_map, sizeLine_eq]; omega
  rw [c1, c2, ← List.map_append]
  refine ⟨_, rfl, (by show 1 ≤ sizeLine; decide), ?_⟩
  refine ⟨_, rfl, _, rfl, ?_⟩
  rw [ed] at t hmin
  have lS : lead ∈ A ++ lead :: B := List.mem_append_right _ List.mem_cons_self
  have inS : ∀ x, x ∈ A ++ B → x ∈ A ++ lead :: B := fun x hx => by
    rcases List.mem_append.mp hx with z | z
    · exact List.mem_append_left _ z
    · exact List.mem_append_right _ (List.mem_cons_of_mem _ z)
  rw [ed] at lens
  have lenL := lens lead lS
  have hnz : co lead c ≠ 0 := (t.col.sf lead lS).nz
  have abl : (A ++ B).length = some.length - 1 := by rw [List.length_append]; omega
  have hne : A ++ B ≠ [] := fun z => by rw [z, List.length_nil] at abl; omega
  obtain ⟨t', dec⟩ := t.next hmin hne
  have c6 : c < 6 := by omega
  have atM : ∀ x ∈ A ++ lead :: B, (co x c).natAbs < 2 ^ 6144 := fun x hx => Nat.lt_of_le_of_lt (t.at_ x hx) (Nat.lt_of_le_of_lt (Nat.pow_le_pow_right (by decide) (aB5 c6)) (Nat.pow_lt_pow_right (by decide) (by decide)))
  have smM : ∀ x ∈ A ++ lead :: B, ∀ i, (co x i).natAbs < 2 ^ 24575 := fun x hx i => Nat.lt_of_lt_of_le (M_next (t.ss x hx i)) (Nat.pow_le_pow_right (by decide) (aB6 (show c + 1 ≤ 6 by omega)))
  refine forD_run (fun i r => ∃ r9 r10 : Sl, r = [r0, r1, .dat (.lst ((rest ++ (((A ++ B).take i).map fun x => lessL x lead c).filter fun x => !nzB c x).map lstD)), .dat (.int (c : Nat)), .dat (.lst ((lead :: (((A ++ B).take i).map fun x => lessL x lead c).filter (nzB c)).map lstD)), .dat (.lst ((some.map fun x => (((co x c).natAbs : Nat) : Int)).map .int)), .dat (.int (j : Nat)), .dat (lstD lead), .dat (.lst ((A ++ B).map lstD)), r9, r10])
    ⟨r9, r10, ?_⟩ ?_ ?_
  · rw [List.take_zero, List.map_nil, List.filter_nil, List.filter_nil, List.append_nil]
    rfl
  · rintro r ⟨r9, r10, rfl⟩
    rw [List.length_map, List.take_length]
    refine k _ _ _ _ _ _ _ _ t' (by rw [ed]; exact dec) ?_
    have p := filter_two (nzB c) ((A ++ B).map fun x => lessL x lead c)
    rw [List.length_map, abl] at p
    rw [List.length_cons, List.length_append]
    omega
  · rintro i d r nx hd ⟨r9, r10, rfl⟩ kk
    rw [List.getElem?_map] at hd
    obtain ⟨x, hx, rfl⟩ := Option.map_eq_some_iff.mp hd
    have mx := List.mem_of_getElem? hx
    have il := (List.getElem?_eq_some_iff.mp hx).1
    have lx := lens x (inS x mx)
    have q1 : ((co x c).fdiv (co lead c)).natAbs < 2 ^ 6144 := Nat.lt_of_le_of_lt (fdiv_abs hnz) (atM x (inS x mx))
    have et : (A ++ B).take (i + 1) = (A ++ B).take i ++ [x] := by rw [List.take_add_one, hx]; rfl
    have lt1 : (((A ++ B).take i).map fun x => lessL x lead c).length ≤ 40 := by rw [List.length_map, List.length_take]; omega
    refine law_inner (by omega) (by omega) (by omega) ⟨hnz, .inl (Nat.lt_trans (log_pow (atM lead lS) (by decide)) (by decide))⟩ (fun a ha => ?_) (fun a ha => ?_) ?_ ?_ fun r10 => kk _ ⟨.dat (lstD x), r10, ?_⟩
    · obtain ⟨p, hp, rfl⟩ := List.mem_iff_getElem.mp ha
      rw [← co_at hp]
      exact mulA (a := 1) (e := 1) (by decide) (smM x (inS x mx) p) (by decide)
    · obtain ⟨p, hp, rfl⟩ := List.mem_iff_getElem.mp ha
      rw [← co_at hp]
      exact mulA q1 (smM lead lS p) (by decide)
    · have := List.length_filter_le (nzB c) (((A ++ B).take i).map fun x => lessL x lead c)
      rw [List.length_map, List.length_cons]
      omega
    · have := List.length_filter_le (fun x => !nzB c x) (((A ++ B).take i).map fun x => lessL x lead c)
      rw [List.length_map, List.length_append]
      omega
    · have e1 : ((A ++ B).take (i + 1)).map (fun x => lessL x lead c) = ((A ++ B).take i).map (fun x => lessL x lead c) ++ [lessL x lead c] := by rw [et, List.map_append]; rfl
      rw [e1, List.filter_append, List.filter_append]
      cases e : nzB c (lessL x lead c) with
      | true =>
        have f1 : [lessL x lead c].filter (nzB c) = [lessL x lead c] := by rw [List.filter_cons_of_pos e, List.filter_nil]
        have f2 : ([lessL x lead c].filter fun x => !nzB c x) = [] := by rw [List.filter_cons_of_neg (by rw [e]; decide), List.filter_nil]
        simp only [f1, f2, if_true, List.append_nil, List.map_append, List.map_cons, List.map_nil, List.cons_append, List.append_assoc]
      | false =>
        have f1 : [lessL x lead c].filter (nzB c) = [] := by rw [List.filter_cons_of_neg (by rw [e]; decide), List.filter_nil]
        have f2 : ([lessL x lead c].filter fun x => !nzB c x) = [lessL x lead c] := by rw [List.filter_cons_of_pos (by rw [e]; decide), List.filter_nil]
        simp only [f1, f2, Bool.false_eq_true, if_false, List.append_nil, List.map_append, List.map_cons, List.map_nil, List.cons_append, List.append_assoc]

def pLSteps : DSp := fun ds Q => ∃ (m : Nat) (G : List (List Int)), ds = [.lst (G.map rwD)] ∧ m ≤ 6 ∧ G.length ≤ 40 ∧ (∀ g ∈ G, g.length = m) ∧ (∀ g ∈ G, ∀ i, (co g i).natAbs ≤ 30) ∧ ∀ ms, LSt m G ms → Q (.lst (ms.map lstD))

theorem pLSteps_mo : MoP pLSteps := fun _ _ _ q ⟨m, G, h1, h2, h3, h4, h5, z⟩ => ⟨m, G, h1, h2, h3, h4, h5, fun ms h => q _ (z ms h)⟩

def pLLessG : DSp := fun ds Q => ∃ (x y : List Int) (j k : Int), ds = [lstD x, .int j, lstD y, .int k] ∧ x.length = y.length ∧ x.length ≤ 63 ∧ (∀ a ∈ x, CMulA j a) ∧ (∀ a ∈ y, CMulA k a) ∧ Q (lstD (takenL (timesL x j) (timesL y k)))

theorem pLLessG_mo : MoP pLLessG := fun _ _ _ q ⟨x, y, j, k, h1, h2, h3, h4, h5, z⟩ => ⟨x, y, j, k, h1, h2, h3, h4, h5, q _ z⟩

theorem all_ints {F : Int → Prop} : ∀ {ys : List Da}, (∀ y ∈ ys, ∃ t, y = .int t ∧ F t) → ∃ b : List Int, ys = b.map .int ∧ ∀ t ∈ b, F t
  | [], _ => ⟨[], rfl, fun _ h => by cases h⟩
  | y :: ys, h => by
    obtain ⟨b, rfl, hb⟩ := all_ints (ys := ys) fun z hz => h z (List.mem_cons_of_mem _ hz)
    obtain ⟨t, rfl, ht⟩ := h y List.mem_cons_self
    refine ⟨t :: b, rfl, fun s hs => ?_⟩
    rcases List.mem_cons.mp hs with e | e
    · rw [e]; exact ht
    · exact hb s e

theorem paired_right {α β : Type} {F : α → β → Prop} : ∀ {xs : List α} {ys : List β}, Paired F xs ys → ∀ y ∈ ys, ∃ x, x ∈ xs ∧ F x y
  | _, _, .nil, _, h => nomatch h
  | _, _, .cons h p, y, hy => by
    rcases List.mem_cons.mp hy with e | e
    · rw [e]; exact ⟨_, List.mem_cons_self, h⟩
    · obtain ⟨x, h1, h2⟩ := paired_right p y e
      exact ⟨x, List.mem_cons_of_mem _ h1, h2⟩

def srLast : TDS := dIf (dB (dOp ltD (dCall maxLD (dCons (dOp addD (dLst (dCons (dC (.int 0)) dNil)) (dLc (dItT (dVar 7)) (dgName 10) dYes (dCall absD (dCons (dVar 10) dNil)) [10])) dNil)) (dC (.int 31)))) (dApp 3 (dVar 7)) dNext

def srMid : TDS := dSeq (dIf (dB (dOp (eqD false) (dVar 6) (dC (.int 1)))) (dSet (fun r Q => dIfE (dB (dOp (eqNilD true) (dVar 3) (dLst dNil))) (dOp ixD (dVar 3) (dC (.int 0))) (dOp repTD (dTup (dCons (dC (.int 0)) dNil)) (dVar 1)) (openE r) fun d => noL d = true ∧ Q d) 7) dNext) srLast

theorem sr_last {E : EnD} {m : Nat} {G : List (List Int)} {x : List Int} {r0 r1 r2 r4 r5 r6 r8 r9 r10 : Sl} (hx : x.length = m) (hm : m ≤ 6) (hG : G.length ≤ 8) (k1 : (∀ i, (co x i).natAbs ≤ 30) → E.nx [r0, r1, r2, .own ((G ++ [x]).map rwD), r4, r5, r6, .dat (rwD x), r8, r9, r10]) (k2 : E.nx [r0, r1, r2, .own (G.map rwD), r4, r5, r6, .dat (rwD x), r8, r9, r10]) :
    srLast E [r0, r1, r2, .own (G.map rwD), r4, r5, r6, .dat (rwD x), r8, r9, r10] := by
  have absE : ∀ i : Int, (if i < 0 then -i else i) = ((i.natAbs : Nat) : Int) := fun i => by split <;> omega
  refine ⟨by show 1 ≤ sizeLine; decide, _, rfl, _, rfl, ?_⟩
  refine lcD_mapM Da.int (fun a => Da.int ((a.natAbs : Nat) : Int)) x (by omega) (fun a ha R hR => ⟨_, rfl, _, rfl, by rw [absE]; exact hR⟩) ?_
  have em : [Da.int 0] ++ x.map (fun a => Da.int ((a.natAbs : Nat) : Int)) = (0 :: x.map fun a => ((a.natAbs : Nat) : Int)).map .int := by rw [List.map_cons, List.map_map]; rfl
  refine ⟨by rw [List.length_map, sizeLine_eq]; show 1 + _ ≤ _; omega, ?_⟩
  rw [em]
  refine ⟨_, rfl, by simp, fun mx h1 h2 => ⟨_, rfl, ite2 (fun h => ?_) (fun h => k2)⟩⟩
  have h := of_decide_eq_true h
  refine ⟨_, rfl, _, rfl, by rw [List.length_map, sizeLine_eq]; omega, ?_⟩
  have z := k1 fun i => by
    by_cases c : i < x.length
    · have := h2 _ (List.mem_cons_of_mem _ (List.mem_map_of_mem (f := fun a : Int => ((a.natAbs : Nat) : Int)) (co_mem c)))
      omega
    · rw [co_out (by omega)]; decide
  rw [List.map_append] at z
  exact z

theorem sr_mid {E : EnD} {m : Nat} {wy : Int} {G : List (List Int)} {x : List Int} {r0 r2 r4 r5 r8 r9 r10 : Sl} (hx : x.length = m) (hm : m ≤ 6) (hG : G.length ≤ 8) (hl : ∀ g ∈ G, g.length = m)
    (k1 : ∀ (y : List Int) (r7 : Sl), y.length = m → (∀ i, (co y i).natAbs ≤ 30) → E.nx [r0, .dat (.int (m : Nat)), r2, .own ((G ++ [y]).map rwD), r4, r5, .dat (.int wy), r7, r8, r9, r10]) (k2 : ∀ r7 : Sl, E.nx [r0, .dat (.int (m : Nat)), r2, .own (G.map rwD), r4, r5, .dat (.int wy), r7, r8, r9, r10]) :
    srMid E [r0, .dat (.int (m : Nat)), r2, .own (G.map rwD), r4, r5, .dat (.int wy), .dat (rwD x), r8, r9, r10] := by
  have fin : ∀ y : List Int, y.length = m → srLast E [r0, .dat (.int (m : Nat)), r2, .own (G.map rwD), r4, r5, .dat (.int wy), .dat (rwD y), r8, r9, r10] := fun y hy => sr_last hy hm hG (fun h => k1 y _ hy h) (k2 _)
  refine ⟨_, rfl, shp_int _, shp_int _, _, rfl, ite2 (fun h => ?_) (fun h => fin x hx)⟩
  refine ⟨_, rfl, by show 0 ≤ sizeLine; decide, G.map rwD, rfl, rfl, _, rfl, ite2 (fun h => ?_) (fun h => ?_)⟩
  · cases G with
    | nil => exact absurd h (by decide)
    | cons g G => exact ⟨_, rfl, rwD g, L2.atI_nat (j := 0) rfl, noL_row g, fin g (hl g List.mem_cons_self)⟩
  · have e0 : (List.replicate (((m : Nat) : Int)).toNat [Da.int 0]).flatten = (List.replicate m (0 : Int)).map .int := by rw [Int.toNat_natCast, List.map_replicate]; exact List.flatten_replicate_singleton
    refine ⟨by show 1 ≤ sizeLine; decide, _, rfl, [.int 0], _, rfl, rfl, by simp, by omega, by omega, by decide, ?_⟩
    rw [e0]
    exact ⟨noL_row (List.replicate m 0), fin (List.replicate m 0) List.length_replicate⟩

def pSRows : DSpF := fun ds Q => ∃ (m : Nat) (top : Int), ds = [.bag, .int (m : Nat), .int top] ∧ m ≤ 6 ∧ 1 ≤ top ∧ top ≤ 30 ∧ ∀ G, Few m G → Q (G.map rwD)

theorem pSRows_mo : MoPF pSRows := fun _ _ _ q ⟨m, t, h1, h2, h3, h4, z⟩ => ⟨m, t, h1, h2, h3, h4, fun G h => q _ (z G h)⟩
def pCut : DSp := fun ds Q => ∃ (m e : Nat) (G : List (List Int)), ds = [.lst (G.map rwD)] ∧ m ≤ 8 ∧ G.length ≤ 40 ∧ (∀ g ∈ G, g.length = m) ∧ (∀ g ∈ G, El.Sm e g) ∧ (e + 1) * 2 ^ m ≤ 400000 ∧ ∀ found rest, CutG m e m G found rest → Q (.lst (found.map lstD))
theorem pCut_mo : MoP pCut := fun _ _ _ q ⟨m, e, G, a, b, c, d, f, g, z⟩ => ⟨m, e, G, a, b, c, d, f, g, fun x y h => q _ (z x y h)⟩
def pLRank : DSp := fun ds Q => ∃ (m e : Nat) (G : List (List Int)), ds = [.lst (G.map rwD)] ∧ m ≤ 8 ∧ G.length ≤ 40 ∧ (∀ g ∈ G, g.length = m) ∧ (∀ g ∈ G, El.Sm e g) ∧ (e + 1) * 2 ^ m ≤ 400000 ∧ ∀ n : Nat, RankOf (G.map co) n → Q (.int (n : Nat))
theorem pLRank_mo : MoP pLRank := fun _ _ _ q ⟨m, e, G, a, b, c, d, f, g, z⟩ => ⟨m, e, G, a, b, c, d, f, g, fun x h => q _ (z x h)⟩
def pLHeld : DSp := fun ds Q => ∃ (m e : Nat) (G : List (List Int)) (x : List Int), ds = [.lst (G.map rwD), rwD x] ∧ m ≤ 8 ∧ G.length ≤ 39 ∧ (∀ g ∈ G, g.length = m) ∧ x.length = m ∧ (∀ g ∈ G, El.Sm e g) ∧ El.Sm e x ∧ (e + 1) * 2 ^ m ≤ 400000 ∧ ∀ b : Bool, (b = true ↔ Held (G.map co) (co x)) → Q (.bl b)
theorem pLHeld_mo : MoP pLHeld := fun _ _ _ q ⟨m, e, G, x, a, b, c, d, f, g, h, i, z⟩ => ⟨m, e, G, x, a, b, c, d, f, g, h, i, fun b hb => q _ (z b hb)⟩
/-- steps, small numbers -/
theorem sz_rwE {x : List Int} {m e : Nat} (hm : x.length ≤ m) (h : El.Sm e x) (he : e ≤ 1900) (he0 : 0 < e) : Sz (rwD x) 1 (m * 1923 + 3) := by
  have z := sz_tup (ds := x.map Da.int) (n := 0) (c := 1921) fun d hd => by
    obtain ⟨a, ha, rfl⟩ := List.mem_map.mp hd
    obtain ⟨j, hj, rfl⟩ := List.mem_iff_getElem.mp ha
    have := h j
    rw [co_at hj] at this
    exact sz_int (Nat.lt_of_lt_of_le (log_pow (e := e) this he0) (by omega))
  rw [List.length_map] at z
  exact z.up (Nat.le_refl _) (by have := Nat.mul_le_mul_right 1923 hm; omega)
theorem sz_rwsE {G : List (List Int)} {e : Nat} (hc : G.length ≤ 40) (hl : ∀ g ∈ G, g.length ≤ 20) (h : ∀ g ∈ G, El.Sm e g) (he : e ≤ 1900) (he0 : 0 < e) : Sz (.lst (G.map rwD)) 2 1600000 := by
  have z := sz_lst (ds := G.map rwD) (n := 1) (c := 38463) fun d hd => by
    obtain ⟨g, hg, rfl⟩ := List.mem_map.mp hd
    exact (sz_rwE (hl g hg) (h g hg) he he0).up (Nat.le_refl _) (by decide)
  rw [List.length_map] at z
  exact z.up (Nat.le_refl _) (by omega)
end Rw
/-! A list of one's own walked over by a for, where other lists of one's own stand beside it. -/
namespace Pd
open PySem PySem.Spec PyProof.Rows L2
section
variable {K : PySem.W.Frag} {w : Wd} {W W' : Addr → Bool} {own own' : Ow} {r r' : En} {σ σ' : L2.St} {H H' : Hp}
end
section
variable {X : Cx} {w : Wd}
/-- at the end of a turn: what stood there stands there -/
def AtR (f : Nat → Addr) : Nat → En → En → Prop
  | k, .own _ :: r, s :: r' => s = .dat (isAt (f k)) ∧ AtR f (k + 1) r r'
  | k, _ :: r, _ :: r' => AtR f (k + 1) r r'
  | _, [], [] => True
  | _, _, _ => False
theorem AtR.len {f : Nat → Addr} : ∀ {k : Nat} {r r' : En}, AtR f k r r' → r'.length = r.length
  | _, [], [], _ => rfl
  | k, [], _ :: _, h => h.elim
  | k, s :: r, [], h => by cases s <;> exact h.elim
  | k, s :: r, t :: r', h => by
    cases s with
    | own ds => exact congrArg (· + 1) (AtR.len h.2)
    | no => exact congrArg (· + 1) (AtR.len (k := k + 1) h)
    | dat d => exact congrArg (· + 1) (AtR.len (k := k + 1) h)
    | reg d => exact congrArg (· + 1) (AtR.len (k := k + 1) h)
    | od d => exact congrArg (· + 1) (AtR.len (k := k + 1) h)
theorem AtR.at {f : Nat → Addr} : ∀ {k : Nat} {r r' : En}, AtR f k r r' → ∀ (j : Nat) (es : List Da), r[j]? = some (Sl.own es) → r'[j]? = some (Sl.dat (isAt (f (k + j))))
  | _, [], _, _, _, _, h => by cases h
  | k, s :: r, [], h, _, _, _ => by cases s <;> exact h.elim
  | k, s :: r, t :: r', h, 0, es, e => by
    cases e
    rw [h.1]; rfl
  | k, s :: r, t :: r', h, j + 1, es, e => by
    rw [show k + (j + 1) = k + 1 + j by omega]
    have h' : AtR f (k + 1) r r' := by
      cases s with
      | own ds => exact h.2
      | _ => exact h
    exact AtR.at h' j es e
end
end Pd
/-! A for whose body only looks and returns where something is wrong: it never does. -/
namespace Pd
open PySem PySem.Spec PyProof.Rows L2
section
variable {X : Cx} {w : Wd}
/-- looks alone, none of which fires -/
structure PCk (X : Cx) (w : Wd) (st : List Stmt) (t : En → Prop) : Prop where
  run : PSs X st (fun D σ H => ∃ W own r, Stt X.K w W own r σ H ∧ t r ∧ ∀ H', Ext w.g H H' → OkW X.K w.g W H' → D.nx σ H')
end
end Pd
/-! math.gcd; a new list walked; tuples of whole numbers compared. -/
namespace Pd
open PySem PySem.Spec PyProof.Rows L2
section
variable {X : Cx} {w : Wd} {e : Expr} {es : List Expr} {p pos : Pos} {t : TDA}
def gcdD : DB := fun ds Q => ∃ a b : Int, ds = [.int a, .int b] ∧ Q (.int ((Nat.gcd a.natAbs b.natAbs : Nat) : Int))
theorem ped_gcd {x : Str} (hm : X.mg x = some (.builtin "math.gcd")) (args : PAd X w (e :: es) t) (hg : Gl X x := by rfl) (hdb : (x == ("__debug__" : Str)) = false := by decide)
    (he : starEach (e :: es) X.env = (false, eval e X.env) :: starEach es X.env := by rfl) (hpl : (backTo pos (starEach es X.env)).any (·.1) = false := by rfl) : PEd X w (.Call (.Name x p) (e :: es) [] pos) (dCall gcdD t) := by
  refine ⟨weE (pe_callBfun cr_gcd hg hm args.pa hdb he hpl) ?_, fun r Q Q' q h => args.mo _ _ _ (fun ds ⟨a, b, e, z⟩ => ⟨a, b, e, q _ z⟩) h⟩
  rintro σ H Q ⟨W, own, r, S, h⟩
  refine goA args S h fun xs vs H1 e1 k1 d1 z => ?_
  obtain ⟨a, b, rfl, z⟩ := z
  cases d1 with
  | cons p1 q1 =>
    cases q1 with
    | cons p2 q2 =>
      cases q2
      cases p1
      cases p2
      exact ⟨a, b, rfl, z _ _ e1 k1 (.int _)⟩
end
end Pd
/-! A row cleared at the first places of steps; points. -/
namespace El
/-- what a row comes to with as few times of it as can be, 0 at all first places -/
structure Clr (m : Nat) (ms : List (List Int)) (row : List Int) (N : Int) (l : List Int) : Prop where
  pos : 1 ≤ N
  len : l.length = m
  mix : Lat (ms.map co) (fun i => N * co row i - co l i)
  zero : ∀ s ∈ ms, ∀ p, Fp (co s) p → co l p = 0
  min : ∀ (n : Int) (g : Vc), Lat (ms.map co) g → (∀ s ∈ ms, ∀ p, Fp (co s) p → n * co row p = g p) → N ∣ n
theorem Clr.start {m : Nat} {row : List Int} (h : row.length = m) : Clr m [] row 1 row :=
  ⟨Int.le_refl _, h, by
    have e : (fun i => 1 * co row i - co row i) = fun _ : Nat => (0 : Int) := funext fun i => by omega
    rw [e]; exact .zero, fun _ h => absurd h List.not_mem_nil, fun n _ _ _ => Int.one_dvd n⟩
/-- a mixture of steps with 0 where they begin is nought -/
theorem Ech.none {n : Nat} {ss : List Vc} (e : Ech n ss) {x : Vc} (hx : Lat ss x) (h : ∀ s ∈ ss, ∀ p, Fp s p → x p = 0) : ∀ i, x i = 0 := fun i => Classical.byContradiction fun z => by
  obtain ⟨q, _, f⟩ := exists_fp z
  obtain ⟨s, hs, fs, _⟩ := e.fp hx f
  exact f.nz (h s hs q fs)
theorem Lat.last {A : List Vc} {s g : Vc} (h : Lat (A ++ [s]) g) : ∃ (c : Int) (g' : Vc), Lat A g' ∧ ∀ i, g i = g' i + c * s i := by
  induction h with
  | zero => exact ⟨0, _, .zero, fun i => by simp⟩
  | @add x y k _ hy ih =>
    obtain ⟨c, g', h1, h2⟩ := ih
    rcases List.mem_append.mp hy with z | z
    · exact ⟨c, _, h1.add k z, fun i => by show x i + k * y i = g' i + k * y i + c * s i; rw [h2 i]; omega⟩
    · rw [List.mem_singleton.mp z]
      exact ⟨c + k, g', h1, fun i => by show x i + k * s i = g' i + (c + k) * s i; rw [h2 i, Int.add_mul]; omega⟩
/-- how often a row is taken that its part is made of one that a step begins with -/
def facOf (a b : Int) : Int := a.fdiv ((a.gcd b : Nat) : Int)
theorem facOf_is {a b : Int} (ha : 0 < a) : 1 ≤ facOf a b ∧ a = facOf a b * ((a.gcd b : Nat) : Int) ∧ (0 : Int) < ((a.gcd b : Nat) : Int) := by
  have g0 : 0 < a.gcd b := Int.gcd_pos_of_ne_zero_left _ (by omega)
  obtain ⟨k, hk⟩ : ((a.gcd b : Nat) : Int) ∣ a := Int.gcd_dvd_left ..
  have gp : (0 : Int) < ((a.gcd b : Nat) : Int) := by omega
  have e : facOf a b = k := by
    unfold facOf
    rw [Int.fdiv_eq_ediv_of_nonneg _ (Int.le_of_lt gp)]
    conv => lhs; lhs; rw [hk]
    exact Int.mul_ediv_cancel_left _ (by omega)
  rw [e]
  refine ⟨?_, by rw [Int.mul_comm]; exact hk, gp⟩
  have : 0 < k := Classical.byContradiction fun n => by
    have : k ≤ 0 := by omega
    have := Int.mul_nonpos_of_nonneg_of_nonpos (Int.le_of_lt gp) this
    omega
  omega
theorem gcd1_dvd {a b c : Int} (h : a ∣ b * c) (g : a.gcd c = 1) : a ∣ b := by
  rw [← Int.natAbs_dvd_natAbs] at h ⊢
  rw [Int.natAbs_mul] at h
  exact Nat.Coprime.dvd_of_dvd_mul_right (show Nat.gcd a.natAbs c.natAbs = 1 from g) h
/-- just multiples of it do -/
theorem facOf_min {a b j c : Int} (ha : 0 < a) (h : j * b = c * a) : facOf a b ∣ j := by
  obtain ⟨f1, f2, f3⟩ := facOf_is (b := b) ha
  obtain ⟨k, hk⟩ : ((a.gcd b : Nat) : Int) ∣ b := Int.gcd_dvd_right ..
  have h2 : j * k = c * facOf a b := by
    have z : ((a.gcd b : Nat) : Int) * (j * k) = ((a.gcd b : Nat) : Int) * (c * facOf a b) := by
      rw [Int.mul_left_comm, ← hk, h]
      conv => lhs; rw [f2]
      rw [Int.mul_comm (facOf a b), Int.mul_left_comm]
    exact Int.eq_of_mul_eq_mul_left (by omega) z
  have cop : Int.gcd (facOf a b) k = 1 := by
    have e1 : a.gcd b = (((a.gcd b : Nat) : Int) * facOf a b).gcd (((a.gcd b : Nat) : Int) * k) := by
      rw [← hk, Int.mul_comm, ← f2]
    rw [Int.gcd_mul_left, Int.natAbs_natCast] at e1
    have g0 : 0 < a.gcd b := by omega
    have e2 : a.gcd b * (facOf a b).gcd k = a.gcd b * 1 := by rw [← e1]; omega
    exact Nat.eq_of_mul_eq_mul_left g0 e2
  have d : facOf a b ∣ j * k := ⟨c, by rw [h2, Int.mul_comm]⟩
  exact gcd1_dvd d cop
theorem fdiv_exact {a b c : Int} (hb : b ≠ 0) (h : a = b * c) : a.fdiv b = c := by
  rw [h]; exact Int.mul_fdiv_cancel_left _ hb
theorem Clr.snoc {m : Nat} {A : List (List Int)} {row s l : List Int} {N : Int} {p : Nat} (h : Clr m A row N l) (ls : s.length = m) (hA : ∀ a ∈ A, a.length = m) (e : Ech 0 ((A ++ [s]).map co)) (fp : Fp (co s) p) (hp : 0 < co s p) (hrow : row.length = m) :
    Clr m (A ++ [s]) row (N * facOf (co s p) (co l p)) (takenL (timesL l (facOf (co s p) (co l p))) (timesL s ((co l p * facOf (co s p) (co l p)).fdiv (co s p)))) := by
  obtain ⟨f1, f2, f3⟩ := facOf_is (b := co l p) hp
  obtain ⟨k, hk⟩ : (((co s p).gcd (co l p) : Nat) : Int) ∣ co l p := Int.gcd_dvd_right ..
  generalize hF : facOf (co s p) (co l p) = F at f1 f2 ⊢
  have lk : (co l p * F).fdiv (co s p) = k := by
    refine fdiv_exact (by omega) ?_
    have h1 : co l p * F = ((((co s p).gcd (co l p) : Nat) : Int) * k) * F := by rw [← hk]
    rw [h1, Int.mul_comm _ F, ← Int.mul_assoc, ← f2]
  rw [lk]
  have eA : Ech 0 (A.map co) := by rw [List.map_append] at e; exact e.front
  have ll : (timesL l F).length = (timesL s k).length := by rw [times_len, times_len, h.len, ls]
  have cl : ∀ i, co (takenL (timesL l F) (timesL s k)) i = F * co l i - k * co s i := fun i => by rw [co_taken ll, co_times, co_times, Int.mul_comm, Int.mul_comm (co s i)]
  have sz : ∀ a ∈ A, ∀ q, Fp (co a) q → co s q = 0 := fun a ha q f => by
    rw [List.map_append] at e
    have e2 : Ech 0 (A.map co ++ co s :: []) := e
    obtain ⟨q', f', lt⟩ := e2.before fp (co a) (List.mem_map_of_mem ha)
    have := f.uniq f'
    subst this
    exact fp.zs q lt
  refine ⟨?_, by rw [taken_len ll, times_len]; exact h.len, ?_, ?_, ?_⟩
  · have := Int.mul_le_mul h.pos f1 (by decide) (by have := h.pos; omega)
    omega
  · have z := ((h.mix.mul F).sub_of fun g hg => List.mem_append_left [co s] hg).sum ((Lat.of (List.mem_append_right (A.map co) List.mem_cons_self)).mul k)
    have ee : (fun i => F * (N * co row i - co l i) + k * co s i) = fun i => N * F * co row i - co (takenL (timesL l F) (timesL s k)) i := funext fun i => by
      rw [cl, Int.mul_sub, ← Int.mul_assoc, Int.mul_comm F N]; omega
    rw [ee] at z
    rw [List.map_append]
    exact z
  · intro a ha q f
    rw [cl]
    rcases List.mem_append.mp ha with z | z
    · rw [h.zero a z q f, sz a z q f]; simp
    · rw [List.mem_singleton.mp z] at f
      have := f.uniq fp
      subst this
      have h1 : F * co l q = F * ((((co s q).gcd (co l q) : Nat) : Int) * k) := by rw [← hk]
      rw [h1, ← Int.mul_assoc, ← f2, Int.mul_comm]; omega
  · intro n g hg hn
    rw [List.map_append] at hg
    obtain ⟨c, g', h1, h2⟩ := Lat.last hg
    have n1 : ∀ a ∈ A, ∀ q, Fp (co a) q → n * co row q = g' q := fun a ha q f => by
      rw [hn a (List.mem_append_left _ ha) q f, h2 q, sz a ha q f]; simp
    obtain ⟨j, rfl⟩ := h.min n g' h1 n1
    have z0 := (eA.none (h.mix.mul j |>.sub 1 h1) fun x hx q f => by
      obtain ⟨a, ha, rfl⟩ := List.mem_map.mp hx
      show j * (N * co row q - co l q) - g' q * 1 = 0
      rw [h.zero a ha q f, ← n1 a ha q f, Int.sub_zero, ← Int.mul_assoc, Int.mul_comm j N]; omega) p
    have z0 : j * (N * co row p - co l p) - g' p * 1 = 0 := z0
    have np := hn s (List.mem_append_right _ List.mem_cons_self) p fp
    rw [h2 p] at np
    have jc : j * co l p = c * co s p := by
      rw [Int.mul_sub, ← Int.mul_assoc, Int.mul_comm j N] at z0
      omega
    have d := facOf_min hp jc
    rw [hF] at d
    obtain ⟨t, ht⟩ := d
    exact ⟨t, by rw [ht, Int.mul_assoc]⟩
/-- nothing is left just of held rows -/
theorem Clr.held {m : Nat} {ms : List (List Int)} {row l : List Int} {N : Int} (h : Clr m ms row N l) (e : Ech 0 (ms.map co)) : (∀ i, co l i = 0) ↔ Held (ms.map co) (co row) := by
  constructor
  · intro z
    refine ⟨N, by have := h.pos; omega, ?_⟩
    have ee : (fun i => N * co row i - co l i) = fun i => N * co row i := funext fun i => by rw [z i]; omega
    have := h.mix
    rwa [ee] at this
  · rintro ⟨D, hD, hl⟩ i
    have z := e.none ((hl.mul N).sub D h.mix) (fun x hx q f => by
      obtain ⟨a, ha, rfl⟩ := List.mem_map.mp hx
      show N * (D * co row q) - (N * co row q - co l q) * D = 0
      rw [h.zero a ha q f, Int.sub_zero, Int.mul_left_comm, Int.mul_comm _ D]; omega) i
    have z : N * (D * co row i) - (N * co row i - co l i) * D = 0 := z
    rw [Int.sub_mul, Int.mul_left_comm, Int.mul_comm _ D, Int.mul_comm (co l i)] at z
    have : D * co l i = 0 := by omega
    exact (Int.mul_eq_zero.mp this).resolve_left hD
/-- of a held row it is the least number -/
theorem Clr.least {m : Nat} {ms : List (List Int)} {row l : List Int} {N : Int} (h : Clr m ms row N l) (z : ∀ i, co l i = 0) (n : Int) : Lat (ms.map co) (fun i => n * co row i) ↔ N ∣ n := by
  constructor
  · exact fun hl => h.min n _ hl fun _ _ _ _ => rfl
  · rintro ⟨k, rfl⟩
    have ee : (fun i => k * (N * co row i - co l i)) = fun i => N * k * co row i := funext fun i => by rw [z i, Int.sub_zero, ← Int.mul_assoc, Int.mul_comm k]
    have := h.mix.mul k
    rwa [ee] at this
/-- what is left is below the determinants -/
theorem Clr.bound {m n B R : Nat} {ms : List (List Int)} {row l : List Int} {N : Int} {V : List Vc} (h : Clr m ms row N l) (e : Ech 0 (ms.map co)) (hn : ms.length ≤ n) (b1 : 1 ≤ B) (r1 : 1 ≤ R) (hB : ∀ g ∈ V, ∀ i, (g i).natAbs ≤ B) (h1 : ∀ s ∈ ms, Held V (co s)) (h2 : ∀ g ∈ V, Lat (ms.map co) g) (hR : ∀ i, (co row i).natAbs ≤ R) (i : Nat) :
    (co l i).natAbs ≤ fac (n + 1) * (R * B ^ n) := by
  obtain ⟨ps, t, k2, k3⟩ := e.tri
  have k1 := t.len
  rw [List.length_map] at k1
  obtain ⟨gs, g1, g2, g3⟩ := (det_lin ps).someQ (G := V) (ms.map co) [] (fun s hs => by obtain ⟨y, hy, rfl⟩ := List.mem_map.mp hs; exact h1 y hy) (by rw [List.nil_append]; exact t.det)
  rw [List.nil_append] at g3
  rw [List.length_map] at g1
  -- the row crossed with all
  have lz : Lat (co row :: gs) (fun j => det (j :: ps) (co row :: gs)) := alt_lat (co row :: gs) (det ps)
  have ez : ∀ j, det (j :: ps) (co row :: gs) = co row j * det ps gs - alt j (fun M => det ps (co row :: M)) gs := fun j => rfl
  have lg : Lat (ms.map co) (fun j => alt j (fun M => det ps (co row :: M)) gs) := ((alt_lat gs fun M => det ps (co row :: M)).sub_of g2).mono h2
  have zz : ∀ s ∈ ms, ∀ p, Fp (co s) p → det (p :: ps) (co row :: gs) = 0 := fun s hs p f => by
    obtain ⟨q, hq, fq⟩ := k3 (co s) (List.mem_map_of_mem hs)
    rw [f.uniq fq]
    exact det_dup hq _
  have dN : N ∣ det ps gs := h.min (det ps gs) _ lg fun s hs p f => by
    have := zz s hs p f
    rw [ez] at this
    rw [Int.mul_comm]
    show co row p * det ps gs = alt p (fun M => det ps (co row :: M)) gs
    omega
  obtain ⟨k, hk⟩ := dN
  have kl : ∀ j, k * co l j = det (j :: ps) (co row :: gs) := fun j => by
    have z := e.none ((h.mix.mul k).sub 1 lg) (fun x hx q f => by
      obtain ⟨a, ha, rfl⟩ := List.mem_map.mp hx
      show k * (N * co row q - co l q) - alt q (fun M => det ps (co row :: M)) gs * 1 = 0
      have := zz a ha q f
      rw [ez] at this
      rw [h.zero a ha q f, Int.sub_zero, ← Int.mul_assoc, Int.mul_comm k, ← hk, Int.mul_comm (det ps gs)]
      omega) j
    have z : k * (N * co row j - co l j) - alt j (fun M => det ps (co row :: M)) gs * 1 = 0 := z
    rw [Int.mul_sub, ← Int.mul_assoc, Int.mul_comm k N, ← hk, Int.mul_comm (det ps gs)] at z
    rw [ez]; omega
  have k0 : k ≠ 0 := fun z => g3 (by rw [hk, z]; simp)
  have le : (det (i :: ps) (co row :: gs)).natAbs ≤ fac (i :: ps).length * (R * B ^ ((i :: ps).length - 1)) := det_le1 (B := B) (P := R) (co row) (i :: ps) [] gs (by rw [List.nil_append, List.length_cons, List.length_cons, g1, k1]) (fun x hx c _ => hB x (g2 x (by simpa using hx)) c) fun c _ => hR c
  rw [← kl i, Int.natAbs_mul] at le
  refine Nat.le_trans (Nat.le_mul_of_pos_left _ (Int.natAbs_pos.mpr k0)) (Nat.le_trans le ?_)
  rw [List.length_cons, k1, Nat.add_sub_cancel]
  exact Nat.mul_le_mul (fac_up (Nat.succ_le_succ hn)) (Nat.mul_le_mul_left _ (pow_up b1 hn))
/-! ### points -/
/-- the point of a row -/
structure IsPoint (m : Nat) (G : List Vc) (row x : Vc) : Prop where
  inm : In m x
  held : Held (G ++ [row]) x
  not : ¬ Held G x
  zero : ∀ q, (∃ y, Lat G y ∧ Fp y q) → x q = 0
  prim : ∀ d : Int, (∀ i, d ∣ x i) → d.natAbs = 1
  pos : ∀ q, Fp x q → 0 < x q
theorem Held.last {G : List Vc} {row x : Vc} (h : Held (G ++ [row]) x) : ∃ (D k : Int) (g : Vc), D ≠ 0 ∧ Lat G g ∧ ∀ i, D * x i = g i + k * row i := by
  obtain ⟨D, hD, hl⟩ := h
  obtain ⟨k, g, hg, e⟩ := Lat.last hl
  exact ⟨D, k, g, hD, hg, e⟩
/-- a mixture with 0 at all places where mixtures begin is nought -/
theorem Lat.none {G : List Vc} {x : Vc} (hx : Lat G x) (h : ∀ q, (∃ y, Lat G y ∧ Fp y q) → x q = 0) : ∀ i, x i = 0 := fun i => Classical.byContradiction fun z => by
  obtain ⟨q, _, f⟩ := exists_fp z
  exact f.nz (h q ⟨x, hx, f⟩)
theorem IsPoint.uniq {m m' : Nat} {G : List Vc} {row row' x x' : Vc} (h : IsPoint m G row x) (h' : IsPoint m' G row' x') (hr : Held (G ++ [row]) row') : x = x' := by
  have hx' : Held (G ++ [row]) x' := h'.held.mono fun g hg => by
    rcases List.mem_append.mp hg with z | z
    · exact (Lat.of (List.mem_append_left _ z)).held
    · rw [List.mem_singleton.mp z]; exact hr
  obtain ⟨D, k, g, hD, hg, e⟩ := h.held.last
  obtain ⟨D', k', g', hD', hg', e'⟩ := hx'.last
  have k0 : k ≠ 0 := fun z => h.not ⟨D, hD, by
    have ee : (fun i => D * x i) = g := funext fun i => by rw [e i, z]; simp
    rw [ee]; exact hg⟩
  have k0' : k' ≠ 0 := fun z => h'.not ⟨D', hD', by
    have ee : (fun i => D' * x' i) = g' := funext fun i => by rw [e' i, z]; simp
    rw [ee]; exact hg'⟩
  have par : ∀ i, k * D' * x' i = k' * D * x i := fun i => by
    have z := ((hg'.mul k).sub k' hg).none (fun q hq => by
      show k * g' q - g q * k' = 0
      have a := e q
      have b := e' q
      rw [h.zero q hq, Int.mul_zero] at a
      rw [h'.zero q hq, Int.mul_zero] at b
      have a1 : g q = -(k * row q) := by omega
      have b1 : g' q = -(k' * row q) := by omega
      rw [a1, b1, Int.mul_neg, Int.neg_mul, Int.mul_left_comm, Int.mul_comm k', Int.mul_comm (k * row q), ← Int.mul_assoc, Int.mul_comm k' k, Int.mul_assoc, Int.mul_left_comm]; omega) i
    have z : k * g' i - g i * k' = 0 := z
    have a : g i = D * x i - k * row i := by have := e i; omega
    have b : g' i = D' * x' i - k' * row i := by have := e' i; omega
    have c1 : k * (k' * row i) = k' * (k * row i) := Int.mul_left_comm ..
    rw [a, b, Int.mul_sub, Int.sub_mul, Int.mul_comm (D * x i), Int.mul_comm (k * row i), c1, ← Int.mul_assoc k D', ← Int.mul_assoc k' D] at z
    omega
  -- both have no common divisor
  have key : ∀ (a b : Int) (x y : Vc), a ≠ 0 → b ≠ 0 → (∀ i, a * y i = b * x i) → (∀ d : Int, (∀ i, d ∣ y i) → d.natAbs = 1) → b.natAbs ∣ a.natAbs := fun a b x y ha hb hxy hp => by
    have g0 : 0 < a.gcd b := Int.gcd_pos_of_ne_zero_left _ ha
    obtain ⟨s, hs⟩ : ((a.gcd b : Nat) : Int) ∣ a := Int.gcd_dvd_left ..
    obtain ⟨t, ht⟩ : ((a.gcd b : Nat) : Int) ∣ b := Int.gcd_dvd_right ..
    have cop : s.gcd t = 1 := by
      have e1 : a.gcd b = (((a.gcd b : Nat) : Int) * s).gcd (((a.gcd b : Nat) : Int) * t) := by rw [← hs, ← ht]
      rw [Int.gcd_mul_left, Int.natAbs_natCast] at e1
      exact Nat.eq_of_mul_eq_mul_left g0 (by omega)
    have st : ∀ i, s * y i = t * x i := fun i => by
      have z := hxy i
      have z2 : ((a.gcd b : Nat) : Int) * (s * y i) = ((a.gcd b : Nat) : Int) * (t * x i) := by rw [← Int.mul_assoc, ← hs, ← Int.mul_assoc, ← ht]; exact z
      exact Int.eq_of_mul_eq_mul_left (by omega) z2
    have t1 := hp t fun i => gcd1_dvd (c := s) (⟨x i, by rw [Int.mul_comm]; exact st i⟩ : t ∣ y i * s) (by rw [Int.gcd_comm]; exact cop)
    have e2 : b.natAbs = a.gcd b := by
      conv => lhs; rw [ht]
      rw [Int.natAbs_mul, t1, Int.natAbs_natCast, Nat.mul_one]
    rw [e2]
    exact Nat.gcd_dvd_left ..
  have kD : k * D' ≠ 0 := fun z => (Int.mul_eq_zero.mp z).elim k0 hD'
  have kD' : k' * D ≠ 0 := fun z => (Int.mul_eq_zero.mp z).elim k0' hD
  have d1 := key _ _ x x' kD kD' par h'.prim
  have d2 := key _ _ x' x kD' kD (fun i => (par i).symm) h.prim
  have ab := Nat.dvd_antisymm d1 d2
  have sgn : k' * D = k * D' ∨ k' * D = -(k * D') := Int.natAbs_eq_natAbs_iff.mp ab
  have pm : (∀ i, x' i = x i) ∨ ∀ i, x' i = - x i := by
    rcases sgn with z | z
    · exact .inl fun i => by have := par i; rw [z] at this; exact Int.eq_of_mul_eq_mul_left kD this
    · exact .inr fun i => by have := par i; rw [z, Int.neg_mul, ← Int.mul_neg] at this; exact Int.eq_of_mul_eq_mul_left kD this
  rcases pm with z | z
  · exact funext fun i => (z i).symm
  · have nz : ∃ i, x i ≠ 0 := Classical.byContradiction fun n => h.not (by
      have ee : x = fun _ => 0 := funext fun i => Classical.byContradiction fun w => n ⟨i, w⟩
      rw [ee]; exact .zero)
    obtain ⟨i, hi⟩ := nz
    obtain ⟨q, _, f⟩ := exists_fp hi
    have f' : Fp x' q := ⟨by rw [z q]; have := f.nz; omega, fun j hj => by rw [z j, f.zs j hj]; rfl⟩
    have a := h.pos q f
    have b := h'.pos q f'
    rw [z q] at b
    omega
end El
namespace El
/-! ### greatest common divisors of rows -/
def gcdL (x : List Int) : Nat := x.foldl (fun g a => Nat.gcd g a.natAbs) 0
theorem gcdF_dvd : ∀ (x : List Int) (g : Nat), x.foldl (fun g a => Nat.gcd g a.natAbs) g ∣ g ∧ ∀ a ∈ x, x.foldl (fun g a => Nat.gcd g a.natAbs) g ∣ a.natAbs
  | [], g => ⟨Nat.dvd_refl _, fun _ h => absurd h List.not_mem_nil⟩
  | a :: x, g => by
    obtain ⟨h1, h2⟩ := gcdF_dvd x (Nat.gcd g a.natAbs)
    refine ⟨Nat.dvd_trans h1 (Nat.gcd_dvd_left ..), fun b hb => ?_⟩
    rcases List.mem_cons.mp hb with e | e
    · rw [e]; exact Nat.dvd_trans h1 (Nat.gcd_dvd_right ..)
    · exact h2 b e
theorem gcdF_great : ∀ (x : List Int) (g d : Nat), d ∣ g → (∀ a ∈ x, d ∣ a.natAbs) → d ∣ x.foldl (fun g a => Nat.gcd g a.natAbs) g
  | [], _, _, h, _ => h
  | a :: x, g, d, h, hx => gcdF_great x _ d (Nat.dvd_gcd h (hx a List.mem_cons_self)) fun b hb => hx b (List.mem_cons_of_mem _ hb)
theorem gcdL_dvd (x : List Int) (i : Nat) : ((gcdL x : Nat) : Int) ∣ co x i := by
  by_cases c : i < x.length
  · have := (gcdF_dvd x 0).2 _ (co_mem c)
    rw [← Int.natAbs_dvd_natAbs, Int.natAbs_natCast]; exact this
  · rw [co_out (by omega)]; exact Int.dvd_zero _
theorem gcdL_great {x : List Int} {d : Int} (h : ∀ i, d ∣ co x i) : d.natAbs ∣ gcdL x := gcdF_great x 0 d.natAbs (Nat.dvd_zero _) fun a ha => by
  obtain ⟨i, hi, rfl⟩ := List.mem_iff_getElem.mp ha
  rw [← co_at hi]
  exact Int.natAbs_dvd_natAbs.mpr (h i)
theorem gcdL_zero {x : List Int} : gcdL x = 0 ↔ ∀ i, co x i = 0 := by
  constructor
  · intro h i
    have := gcdL_dvd x i
    rw [h] at this
    exact Int.zero_dvd.mp this
  · intro h
    have : (0 : Int).natAbs ∣ gcdL x := gcdL_great fun i => by rw [h i]; exact Int.dvd_refl _
    exact Nat.eq_zero_of_zero_dvd this
/-- a row divided by what its parts share -/
def Short (x y : List Int) : Prop := y.length = x.length ∧ ∃ d : Nat, 1 ≤ d ∧ (∀ i, co x i = (d : Int) * co y i) ∧ ((∃ i, co x i ≠ 0) → ∀ c : Int, (∀ i, c ∣ co y i) → c.natAbs = 1)
theorem Short.same {x : List Int} (h : ¬ 1 < gcdL x) : Short x x := by
  refine ⟨rfl, 1, Nat.le_refl _, fun i => by simp, fun ⟨i, hi⟩ c hc => ?_⟩
  have d := gcdL_great hc
  have g1 : gcdL x = 1 := by
    have : gcdL x ≠ 0 := fun z => hi (gcdL_zero.mp z i)
    omega
  rw [g1] at d
  exact Nat.dvd_one.mp d
/-- by its point a row is held -/
theorem IsPoint.back {m : Nat} {G : List Vc} {row x : Vc} (h : IsPoint m G row x) : Held (G ++ [x]) row := by
  obtain ⟨D, k, g, hD, hg, e⟩ := h.held.last
  have k0 : k ≠ 0 := fun z => h.not ⟨D, hD, by
    have ee : (fun i => D * x i) = g := funext fun i => by rw [e i, z]; simp
    rw [ee]; exact hg⟩
  refine ⟨k, k0, ?_⟩
  have z := ((Lat.of (List.mem_append_right G (List.mem_cons_self (a := x) (l := [])))).mul D).sub 1 (hg.sub_of fun y hy => List.mem_append_left [x] hy)
  have ee : (fun i => D * x i - g i * 1) = fun i => k * row i := funext fun i => by have := e i; omega
  rwa [ee] at z
end El
/-! What is said of the defs on divisors and points. -/
namespace Rw
open PySem PySem.Spec PyProof.Rows L2 Pd El
def pCleared : DSp := fun ds Q => ∃ (m a : Nat) (G : List (List Int)) (row : List Int), ds = [.lst (G.map rwD), rwD row] ∧ m ≤ 63 ∧ Fine m G ∧ row.length = m ∧ El.Sm a row ∧ a ≤ 100000 ∧ ∀ ms N l, Hnf m G ms → Clr m ms row N l → Q (.tup [.int N, rwD l])
theorem pCleared_mo : MoP pCleared := fun _ _ _ q ⟨m, a, G, row, h1, h2, h3, h4, h5, h6, z⟩ => ⟨m, a, G, row, h1, h2, h3, h4, h5, h6, fun ms N l x y => q _ (z ms N l x y)⟩
def pIsHeldP : DSp := fun ds Q => ∃ (m a : Nat) (G : List (List Int)) (row : List Int), ds = [.lst (G.map rwD), rwD row] ∧ m ≤ 63 ∧ Fine m G ∧ row.length = m ∧ El.Sm a row ∧ a ≤ 100000 ∧ ∀ b : Bool, (b = true ↔ Held (G.map co) (co row)) → Q (.bl b)
theorem pIsHeldP_mo : MoP pIsHeldP := fun _ _ _ q ⟨m, a, G, row, h1, h2, h3, h4, h5, h6, z⟩ => ⟨m, a, G, row, h1, h2, h3, h4, h5, h6, fun b x => q _ (z b x)⟩
/-- a law's own common divisor -/
def pLShared : DSp := fun ds Q => ∃ (d : Da) (ns : List Int), ds = [d] ∧ (d = .lst (ns.map .int) ∨ d = rwD ns) ∧ ns.length ≤ 1000 ∧ (∀ a ∈ ns, a.natAbs < 2 ^ 190) ∧ Q (.int ((gcdL ns : Nat) : Int))
theorem pLShared_mo : MoP pLShared := fun _ _ _ q ⟨d, ns, a, b, c, e, z⟩ => ⟨d, ns, a, b, c, e, q _ z⟩
/-- two whole numbers by turns: what they share stays, the product falls -/
structure EuN (g i a b : Nat) : Prop where
  shared : Nat.gcd a b = g
  start : i = 0 → a < 2 ^ 190 ∧ b < 2 ^ 190
  later : 1 ≤ i → b ≤ a ∧ a * b * 2 ^ (i - 1) < 2 ^ 380
theorem EuN.none {g i a : Nat} (h : EuN g i a 0) : EuN g (i + 1) a 0 := ⟨h.shared, fun z => by omega, fun _ => ⟨Nat.zero_le _, by rw [Nat.mul_zero, Nat.zero_mul]; exact Nat.pow_pos (by decide)⟩⟩
theorem EuN.next {g i a b : Nat} (h : EuN g i a b) (hb : b ≠ 0) : EuN g (i + 1) b (a % b) := by
  have lt := Nat.mod_lt a (Nat.pos_of_ne_zero hb)
  refine ⟨?_, fun z => by omega, fun _ => ⟨Nat.le_of_lt lt, ?_⟩⟩
  · rw [← h.shared, Nat.gcd_comm a b, Nat.gcd_rec b a, Nat.gcd_comm]
  · rw [Nat.add_sub_cancel]
    by_cases i0 : i = 0
    · obtain ⟨h1, h2⟩ := h.start i0
      rw [i0, Nat.pow_zero, Nat.mul_one]
      have e : (2 : Nat) ^ 380 = 2 ^ 190 * 2 ^ 190 := by rw [← Nat.pow_add]
      rw [e]
      exact Nat.mul_lt_mul'' h2 (Nat.lt_trans lt h2)
    · obtain ⟨h1, h2⟩ := h.later (by omega)
      have e : 2 ^ i = 2 * 2 ^ (i - 1) := by
        have : i = (i - 1) + 1 := by omega
        conv => lhs; rw [this]
        rw [Nat.pow_succ, Nat.mul_comm]
      have two : 2 * (a % b) ≤ a := by
        have d := Nat.div_add_mod a b
        have q1 : 1 ≤ a / b := Nat.div_pos h1 (Nat.pos_of_ne_zero hb)
        have := Nat.mul_le_mul_left b q1
        omega
      refine Nat.lt_of_le_of_lt ?_ h2
      rw [e, ← Nat.mul_assoc]
      refine Nat.mul_le_mul_right _ ?_
      rw [Nat.mul_assoc, Nat.mul_comm (a % b), Nat.mul_comm a b]
      exact Nat.mul_le_mul_left _ two
theorem EuN.done {g a b : Nat} (h : EuN g 400 a b) : a = g := by
  obtain ⟨h1, h2⟩ := h.later (by decide)
  have z : a * b = 0 := Classical.byContradiction fun n => by
    have : 1 * 2 ^ (400 - 1) ≤ a * b * 2 ^ (400 - 1) := Nat.mul_le_mul_right _ (by omega)
    have : (2 : Nat) ^ 380 < 2 ^ (400 - 1) := Nat.pow_lt_pow_right (by decide) (by decide)
    omega
  have b0 : b = 0 := by
    rcases Nat.mul_eq_zero.mp z with e | e
    · omega
    · exact e
  have := h.shared
  rw [b0, Nat.gcd_zero_right] at this
  exact this
theorem mixF_bound : ∀ (G : List (List Int)) (c : Nat → Int) (i C B : Nat), (∀ k, (c k).natAbs ≤ C) → (∀ g ∈ G, (co g i).natAbs ≤ B) → (mixF c G i).natAbs ≤ G.length * (C * B)
  | [], _, _, _, _, _, _ => Nat.zero_le _
  | g :: G, c, i, C, B, h, hg => by
    have ih := mixF_bound G (fun k => c (k + 1)) i C B (fun k => h (k + 1)) fun x hx => hg x (List.mem_cons_of_mem _ hx)
    have e : mixF c (g :: G) i = c 0 * co g i + mixF (fun k => c (k + 1)) G i := rfl
    have p : (c 0 * co g i).natAbs ≤ C * B := by rw [Int.natAbs_mul]; exact Nat.mul_le_mul (h 0) (hg g List.mem_cons_self)
    rw [e, List.length_cons, Nat.succ_mul]
    have := Int.natAbs_add_le (c 0 * co g i) (mixF (fun k => c (k + 1)) G i)
    omega
/-- what point tells -/
def PtOf (m : Nat) (G : List (List Int)) (row u : List Int) : Prop := (Held (G.map co) (co row) ∧ u = []) ∨ (IsPoint m (G.map co) (co row) (co u) ∧ u.length = m)
theorem PtOf.eq {m : Nat} {G : List (List Int)} {x y u v : List Int} (hu : PtOf m G x u) (hv : PtOf m G y v) : u = v ↔ (Held (G.map co) (co x) ∧ Held (G.map co) (co y)) ∨ (¬ Held (G.map co) (co x) ∧ ¬ Held (G.map co) (co y) ∧ Held ((G ++ [x]).map co) (co y)) := by
  have nh : ∀ {x u : List Int}, IsPoint m (G.map co) (co x) (co u) → ¬ Held (G.map co) (co x) := fun h z => h.not (h.held.mono fun g hg => by
    rcases List.mem_append.mp hg with y | y
    · exact (Lat.of y).held
    · rw [List.mem_singleton.mp y]; exact z)
  have ne : ∀ {x : List Int}, ¬ IsPoint m (G.map co) (co x) (co []) := fun h => h.not (by
    have ee : co [] = fun _ => 0 := funext fun i => co_out (Nat.zero_le _)
    rw [ee]; exact .zero)
  have up : ∀ {x : List Int} {z : Vc}, Held (G.map co) z → Held ((G ++ [x]).map co) z := fun h => h.mono fun g hg => (Lat.of (by rw [List.map_append]; exact List.mem_append_left _ hg)).held
  rcases hu with ⟨a, rfl⟩ | ⟨a, lu⟩
  · rcases hv with ⟨b, rfl⟩ | ⟨b, lv⟩
    · exact ⟨fun _ => .inl ⟨a, b⟩, fun _ => rfl⟩
    · exact ⟨fun e => absurd (e ▸ b) ne, fun h => h.elim (fun h => absurd h.2 (nh b)) fun h => absurd a h.1⟩
  · rcases hv with ⟨b, rfl⟩ | ⟨b, lv⟩
    · exact ⟨fun e => absurd (e ▸ a) ne, fun h => h.elim (fun h => absurd h.1 (nh a)) fun h => absurd b h.2.1⟩
    · constructor
      · intro e
        refine .inr ⟨nh a, nh b, ?_⟩
        rw [← e] at b
        refine b.back.mono fun g hg => ?_
        rcases List.mem_append.mp hg with y | y
        · exact (Lat.of (by rw [List.map_append]; exact List.mem_append_left _ y)).held
        · rw [List.mem_singleton.mp y, List.map_append]; exact a.held
      · rintro (h | ⟨_, _, h⟩)
        · exact absurd h.1 (nh a)
        · rw [List.map_append] at h
          have e := a.uniq b h
          refine List.ext_getElem (lu.trans lv.symm) fun i h1 h2 => ?_
          rw [← co_at h1, ← co_at h2, e]
end Rw
/-! Contracts that know the state at the call; values that are functions; a lambda as such a value. -/
namespace Pd
open PySem PySem.Spec PyProof.Rows L2

abbrev SpS := List Env → Shared → Sp
/-- as FnG, the promise knowing the frames and the state at the call -/
structure FnS (P : Program) (wd : World) (K : PySem.W.Frag) (mg : Str → Option Value) (base : Heap) (CX : CXT) (k : Nat) (f : Addr) (fd : FuncData) (ps : List Str) (sp : SpS) : Prop where
  many : ∀ o s vs H Q E, sp o s vs H Q E → vs.length = ps.length
  goes : ∀ (A : Around) (outer : List Env) (s0 : Shared) (H : Hp) (args : Args) (us : List Value) (vs : List V) (Q : VK) (E : XK),
    Room k A → A.guards = some [] → Env0 P wd K mg base A outer s0 H → BindsTo s0 fd args (ps.zip us) → Vals vs us → sp outer s0 vs H Q E →
      codeAny (model P wd) A (.call (.ref f) args) (CR CX outer P wd H s0 Q E) s0
theorem FnS.up {P : Program} {wd : World} {K : PySem.W.Frag} {mg : Str → Option Value} {base : Heap} {CX : CXT} {j k : Nat} {f : Addr} {fd : FuncData} {ps : List Str} {sp : SpS}
    (F : FnS P wd K mg base CX j f fd ps sp) (h : j ≤ k) : FnS P wd K mg base CX k f fd ps sp :=
  ⟨F.many, fun A outer s0 H args us vs Q E room => F.goes A outer s0 H args us vs Q E (room.mono h)⟩
theorem fnS_of {CX : CXT} {P : Program} {wd : World} {K : PySem.W.Frag} {mg : Str → Option Value} {base : Heap} {k : Nat} {f : Addr} {nm qual : Str} {params : Arguments} {body : List Stmt} {sc : Scope}
    {dV kV doc pm cdv ct oc : Value} {an od : Option Addr} {osl : Array (Option Value)} {N ps : List Str} {sp : SpS}
    (at_f : K.lookup f = some ⟨oc, od, .func (PySem.W.fnOf nm qual params body sc dV kV doc pm an cdv ct), osl⟩)
    (at_c : PySem.W.codeIn K cdv qual = true) (S : FnScope N ps sc)
    (many : ∀ o s vs H Q E, sp o s vs H Q E → vs.length = ps.length)
    (inside : ∀ (A : Around) (outer : List Env) (s0 : Shared) (H : Hp) (vs : List V) (Q : VK) (E : XK), Room k (A.deeper (envOfC qual sc s0.heap.objs.size f cdv)) → A.guards = some [] → sp outer s0 vs H Q E →
      ∃ t, PSs (cxOf CX P wd K mg base N qual sc f cdv A outer s0 H E) body t ∧ t { nx := fun _ H' => Q .non H', rt := Q } (start N vs) H) :
    FnS P wd K mg base CX (k + 1) f (PySem.W.fnOf nm qual params body sc dV kV doc pm an cdv ct) ps sp := by
  constructor
  · exact many
  · intro A outer s0 H args us vs Q E room hG z0 bd rel pre
    have keep0 : ∀ b o, base.get? b = some o → s0.heap.get? b = some o := fun b o e => (z0.bs b o e).1
    have inK : K.In s0.heap := z0.mod.kin.keeps keep0
    have nolim : s0.heap.NoLimit := z0.mod.nolimit.keeps keep0
    have kinds : ∀ y ∈ ps.zip us, sc.names.lookup y.1 = some .local ∨ (sc.names.lookup y.1 = some .cell ∧ ((cellsFrom (s0.heap.objs.size + 1) sc.names []).lookup y.1).isSome = true) := by
      rintro ⟨n, v⟩ hy
      cases S.par n (List.of_mem_zip hy).1 with
      | inl q => exact Or.inl q
      | inr q => exact Or.inr ⟨q, PySem.W.cellsFrom_some _ _ _ (Or.inl q)⟩
    apply codeAny_call_function room.depth (inK _ _ at_f) rfl S.co S.gen rfl (PySem.W.codeRec_of inK at_c) (bd _ _ _ _ ?_)
    apply wpAny_newFunctionEnv_cells S.kind kinds
    intro env ee s1 ic
    subst ee
    refine ⟨nolim.keeps ic.toInCall.keep, codeAny_func ?_⟩
    obtain ⟨t, runs, goal⟩ := inside A outer s0 H vs Q E (room.deeper _) hG pre
    have J := inv_start (CX := CX) (P := P) (w := wd) (K := K) (mg := mg) (base := base) (N := N) (ps := ps) (qual := qual) (scope := sc) (f := f) (cd := cdv) (E := E) S room.hd z0 (many _ _ _ _ _ _ pre) rel ic
    have last : ∀ {σ' : L2.St} {H' : Hp} {v : V} {u : Value} {s' : Shared}, Inv (cxOf CX P wd K mg base N qual sc f cdv A outer s0 H E) [] σ' H' s' → RelV v u → Q v H' → CE outer P wd H s0 Q u s' := by
      intro σ' H' v u s' I rv q
      exact ⟨v, H', I.os, I.bare, I.base, I.hok, rv, q⟩
    refine wpAny_mono (runs.run [] s1 (start N vs) H _ J goal) ?_ (fun e s' hs => hs)
    intro fl s' hs
    cases fl with
    | next =>
      obtain ⟨σ', H', I, q⟩ := hs
      exact last (v := V.non) (u := Value.none) I rfl q
    | ret u =>
      obtain ⟨v, σ', H', I, rv, q⟩ := hs
      exact last I rv q
    | brk =>
      obtain ⟨_, _, _, q⟩ := hs
      exact q.elim
    | cont =>
      obtain ⟨_, _, _, q⟩ := hs
      exact q.elim

/-! ### values that are functions -/
/-- v is a function of n arguments that keeps the promise p, from the state (s, H) on -/
structure FnV (P : Program) (wd : World) (K : PySem.W.Frag) (mg : Str → Option Value) (base : Heap) (g : Gd) (W : Addr → Bool) (outer : List Env) (s : Shared) (H : Hp) (k : Nat) (v : V) (n : Nat) (p : DSpX) : Prop where
  fn : ∃ f o, v = .ref f ∧ s.heap.get? f = some o ∧ H f = none ∧ f ∉ frs outer ∧ ∀ h : Heap, h.get? f = some o → PySem.W.FnAt f h
  mp : MoPX p
  goes : ∀ (f : Addr), v = .ref f → ∀ (A : Around) (outer1 : List Env) (s1 : Shared) (H1 : Hp) (W1 : Addr → Bool) (us : List Value) (vs : List V) (ds : List Da) (Q : VK) (E : XK),
    Room k A → A.guards = some [] → Env0 P wd K mg base A outer1 s1 H1 → Un (frs outer) [] H H1 s.heap s1.heap → Ext g H H1 → OkW K g W1 H1 → (∀ a, W a = true → W1 a = true) → (∀ a, W1 a = true → W a = true ∨ H a = none) →
    Vals vs us → vs.length = n → DvAll K g (hid W1 H1) vs ds → p ds (Aft K g W1 H1 Q) (AftX K g W1 H1 E) →
      codeAny (model P wd) A (.call (.ref f) ⟨us, []⟩) (CR (L2.CX P wd) outer1 P wd H1 s1 Q E) s1
/-- a slot's whole that may be looked at elsewhere -/
def plainS : Sl → Sl
  | .dat d => .dat d
  | _ => .no
def plainR (r : En) : En := r.map plainS
section
variable {K : PySem.W.Frag} {w : Wd} {W W1 : Addr → Bool} {own : Ow} {r : En} {σ : L2.St} {H H1 : Hp}
theorem hid_grow {g : Gd} (gW : ∀ a, Bd g a → W a = true) (e : Ext g H H1) (wN : ∀ a, W1 a = true → W a = true ∨ H a = none) : Sm (hid W H) (hid W1 H1) := fun a o z => by
  obtain ⟨z1, z2⟩ := hid_some z
  rw [hid_no]
  · exact e a o (fun b => by rw [gW a b] at z1; cases z1) z2
  · cases q : W1 a with
    | false => rfl
    | true =>
      rcases wN a q with y | y
      · rw [z1] at y; cases y
      · rw [z2] at y; cases y
/-- later, elsewhere: what is data still holds -/
theorem Stt.plain (S : Stt K w W own r σ H) (e : Ext w.g H H1) (k : OkW K w.g W1 H1) (wN : ∀ a, W1 a = true → W a = true ∨ H a = none) : Stt K ⟨H1, w.g, W1⟩ W1 (fun _ _ => False) (plainR r) σ H1 := by
  refine ⟨k, Ext.refl, fun _ h => h, k.gW, (fun _ h => .inl h), (fun i a h => h.elim), (fun i j a h => h.elim), by unfold plainR; rw [List.length_map]; exact S.len, fun i d h n => ?_⟩
  unfold plainR at h
  rw [List.getElem?_map] at h
  cases q : r[i]? with
  | none => rw [q] at h; cases h
  | some x =>
    rw [q] at h
    cases h
    cases x with
    | dat x =>
      obtain ⟨v, h1, h2⟩ := S.sl i _ q (fun z => by cases z)
      exact ⟨v, h1, Dv.mono (hid_grow S.ok.gW e wN) _ _ h2⟩
    | _ => exact absurd rfl n
end
/-! ### a lambda without parameters -/
def pLam (r : En) (tb : (Xn → En → Prop) → TDE) : DSpX := fun ds Q R => ds = [] ∧ tb (fun x _ => R x) (plainR r) Q
section
variable {X : Cx} {w : Wd} {pins : List (Addr × Obj)} {W : Addr → Bool} {own : Ow} {r : En} {σ : L2.St} {H : Hp} {s : Shared}
theorem lam_fnv {f c' : Addr} {params : Arguments} {body : Expr} {scope : Scope} {pm ctv : Value} {k : Nat} {tb : (Xn → En → Prop) → TDE}
    (I : Inv X pins σ H s) (S : Stt X.K w W own r σ H) (L : LamX.LamS X.env.scope scope)
    (hf : s.heap.get? f = some (PySem.W.kla_obj "<lambda>" (X.env.qual ++ "<lambda>") params body scope (cloFrom X.env.cells scope.names []) pm c' ctv))
    (nf : H f = none) (ns : f ∉ frs X.stack) (hc : H c' = some (LamX.CodeO c' (X.env.qual ++ "<lambda>")))
    (nb : ¬ Bd w.g c')
    (hb : bindArgs (PySem.W.kla_fn "<lambda>" (X.env.qual ++ "<lambda>") params body scope (cloFrom X.env.cells scope.names []) pm (.ref c') ctv) {} = pure [])
    (mt : ∀ R R' : Xn → En → Prop, (∀ x r, R x r → R' x r) → ∀ r Q, tb R r Q → tb R' r Q)
    (mo : ∀ (R : Xn → En → Prop) r Q Q', (∀ d, Q d → Q' d) → tb R r Q → tb R r Q')
    (body_ok : ∀ (A : Around) (outer : List Env) (s1 : Shared) (H1 : Hp) (E : XK) (w1 : Wd) (R : Xn → En → Prop), w1.g = w.g → Room k (A.deeper (LamX.lamEnv X scope s1.heap.objs.size f c')) → A.guards = some [] →
      TkD (LamX.lamCx X A outer s1 H1 E scope f c') w1 R → PEd (LamX.lamCx X A outer s1 H1 E scope f c') w1 body (tb R)) :
    FnV X.prog X.w X.K X.mg X.base w.g W X.stack s H (k + 1) (.ref f) 0 (pLam r tb) := by
  refine ⟨⟨f, _, rfl, hf, nf, ns, fun h e => ?_⟩, fun ds Q Q' R R' q q2 h => ⟨h.1, mt _ _ (fun x _ z => q2 x z) _ _ (mo _ _ _ _ q h.2)⟩, ?_⟩
  · exact ⟨_, _, _, _, e⟩
  · rintro f1 ef A outer1 s1 H1 W1 us vs ds Q E room hG z0 un e1 k1 sub wN rel len dv ⟨rfl, h⟩
    cases ef
    cases dv
    cases rel
    have hf1 := un.keep f _ hf nf ns (fun z => by cases z)
    have hc1 : H1 c' = some (LamX.CodeO c' (X.env.qual ++ "<lambda>")) := e1 c' _ nb hc
    have cr : s1.heap.CodeRec (.ref c') (X.env.qual ++ "<lambda>") := by
      obtain ⟨⟨oc, vs, t, q1, q2, q3⟩, _⟩ := z0.hok c' _ hc1
      exact ⟨c', oc, vs, t, rfl, q1, q2, q3⟩
    have keep0 : ∀ b o, X.base.get? b = some o → s1.heap.get? b = some o := fun b o e => (z0.bs b o e).1
    have nolim : s1.heap.NoLimit := z0.mod.nolimit.keeps keep0
    apply PySem.W.kla_callFunE room.depth hf1 rfl L.co L.gen rfl cr
    rw [hb]
    apply wpAny_pure
    refine wpAny_newFunctionEnv (fun x hx => (L.own x hx).2) (fun x hx => by cases hx) (fun h' n' sb => ?_) L.kind
    refine ⟨nolim.fresh _ sb, PySem.W.kla_codeExpr ?_⟩
    have keep : ∀ b o, s1.heap.get? b = some o → h'.get? b = some o := fun b o e => by
      have lt := Heap.lt_size e
      exact sb.extBut b _ (Nat.ne_of_lt lt) (Heap.get?_push_of_some _ e)
    have J := LamX.lam_start2 (E := E) (f := f) (c' := c') (tk := s1.toks + ([] : List (Str × Value)).length) I L z0 room.hd un n' keep
    have tk : TkD (LamX.lamCx X A outer1 s1 H1 E scope f c') ⟨H1, w.g, W1⟩ (fun x _ => AftX X.K w.g W1 H1 E x) := by
      refine ⟨fun cls d _ H => E cls d H, takes_of rfl rfl rfl rfl, fun x r W' own σ H' cls d h S at_x => ?_⟩
      exact h cls d H' S.base (S.ok.less S.w0 S.g0) ⟨at_x.1, at_x.2.mono (hid_le S.w0)⟩
    have b := body_ok A outer1 s1 H1 E ⟨H1, w.g, W1⟩ _ rfl (room.deeper _) hG tk
    refine wpAny_mono (b.pe.run [] _ σ H1 Q J ⟨W1, _, plainR r, S.plain e1 k1 wN, h⟩) ?_ (fun e s' hs => hs)
    rintro v s' ⟨x, H2, I2, rv, q⟩
    exact ⟨x, H2, I2.os, I2.bare, I2.base, I2.hok, rv, q⟩
end
end Pd
/-! Contracts of defs that are handed functions, said of data; a call of such a value; a call with a lambda as its last argument. -/
namespace Pd
open PySem PySem.Spec PyProof.Rows L2

abbrev FvR := V → Nat → DSpX → Prop
abbrev DSpG := FvR → DSpX
def MoPG (p : DSpG) : Prop := ∀ fv : FvR, (∀ v n q, fv v n q → MoPX q) → MoPX (p fv)
def liPS (P : Program) (wd : World) (K : PySem.W.Frag) (mg : Str → Option Value) (base : Heap) (T : List (Addr × Str)) (kf : Nat) (p : DSpG) : SpS := fun outer s vs H Q E =>
  ∃ g W ds, OkW K g W H ∧ g.tab = T ∧ DvAll K g (hid W H) vs ds ∧ p (fun v n q => FnV P wd K mg base g W outer s H kf v n q) ds (Aft K g W H Q) (AftX K g W H E)
structure CalldG (P : Program) (wd : World) (K : PySem.W.Frag) (mg : Str → Option Value) (base : Heap) (T : List (Addr × Str)) (kf k : Nat) (x : Str) (ps : List Str) (p : DSpG) : Prop where
  ex : ∃ f fd, FnS P wd K mg base (L2.CX P wd) k f fd ps (liPS P wd K mg base T kf p) ∧ mg x = some (.ref f) ∧ PySem.W.keepIn K (.ref f) = true ∧ Binds K fd ps []
  mp : MoPG p
theorem CalldG.up {P : Program} {wd : World} {K : PySem.W.Frag} {mg : Str → Option Value} {base : Heap} {T : List (Addr × Str)} {kf j k : Nat} {x : Str} {ps : List Str} {p : DSpG} (c : CalldG P wd K mg base T kf j x ps p) (h : j ≤ k) : CalldG P wd K mg base T kf k x ps p := by
  obtain ⟨⟨f, fd, F, a, b, d⟩, mp⟩ := c
  exact ⟨⟨f, fd, F.up h, a, b, d⟩, mp⟩

/-! ### worlds later than others -/
structure WdSub (w w' : Wd) : Prop where
  g : w'.g = w.g
  ext : Ext w.g w.H0 w'.H0
  sub : ∀ a, w.W0 a = true → w'.W0 a = true
  new : ∀ a, w'.W0 a = true → w.W0 a = true ∨ w.H0 a = none
theorem WdSub.refl {w : Wd} : WdSub w w := ⟨rfl, Ext.refl, fun _ h => h, fun _ h => .inl h⟩
theorem Stt.sub {K : PySem.W.Frag} {w : Wd} {W : Addr → Bool} {own : Ow} {r : En} {σ : L2.St} {H : Hp} (S : Stt K w W own r σ H) : WdSub w ⟨H, w.g, W⟩ := ⟨rfl, S.base, S.w0, S.wN⟩
/-- the functions that the def was handed keep their promises -/
structure FvAt (X : Cx) (w : Wd) (kf : Nat) (fv : FvR) : Prop where
  ex : X.ex = []
  fs : ∃ W, (∀ a, Bd w.g a → W a = true) ∧ (∀ v n q, fv v n q → FnV X.prog X.w X.K X.mg X.base w.g W X.outer X.s_0 X.H_0 kf v n q) ∧ WdSub ⟨X.H_0, w.g, W⟩ w
theorem FvAt.tr {X : Cx} {w : Wd} {kf : Nat} {fv : FvR} (h : FvAt X w kf fv) (pn : List (Addr × Obj)) (xe : Value → Shared → Prop) : FvAt (X.tr pn xe) w kf fv := ⟨h.ex, h.fs⟩
theorem FvAt.sub {X : Cx} {w w' : Wd} {kf : Nat} {fv : FvR} (h : FvAt X w kf fv) (s : WdSub w w') : FvAt X w' kf fv := by
  refine ⟨h.ex, ?_⟩
  obtain ⟨W, gW, f, u⟩ := h.fs
  obtain ⟨H0', g', W0'⟩ := w'
  obtain ⟨e1, e2, e3, e4⟩ := s
  dsimp only at e1 e2 e3 e4
  subst e1
  refine ⟨W, gW, f, rfl, u.ext.trans e2, fun a h => e3 a (u.sub a h), fun a h => ?_⟩
  rcases e4 a h with z | z
  · exact u.new a z
  · by_cases b : Bd w.g a
    · exact .inl (gW a b)
    · refine .inr ?_
      show X.H_0 a = none
      cases q : X.H_0 a with
      | none => rfl
      | some o =>
        rw [u.ext a o b q] at z
        cases z
theorem FvAt.mp {X : Cx} {w : Wd} {kf : Nat} {fv : FvR} (h : FvAt X w kf fv) : ∀ v n q, fv v n q → MoPX q := fun v n q z => by
  obtain ⟨W, _, f, _⟩ := h.fs
  exact (f v n q z).mp
/-! ### what is kept, with other frames -/
theorem un_fs {fs fs' : List Addr} {H H' : Hp} {h h' : Heap} (U : Un fs' [] H H' h h') (e : ∀ b o, h.get? b = some o → b ∈ fs' → b ∈ fs) : Un fs [] H H' h h' := by
  refine ⟨fun b o hb hn hf he => U.keep b o hb hn (fun z => hf (e b o hb z)) he, fun b o hb hn hf he => ?_, U.free, U.there, U.tups, U.frzs, U.tbls⟩
  by_cases z : b ∈ fs'
  · exact U.slot b o hb hn z he
  · exact ⟨o.slots, U.keep b o hb hn z he⟩
theorem stk_fs {X : Cx} (ok : X.Ok) : ∀ b o, X.s_0.heap.get? b = some o → b ∈ frs X.stack → b ∈ frs X.outer := fun b o hb hm => by
  rcases ok.stk with e | ⟨e, q⟩
  · rw [← e]; exact hm
  · rw [e] at hm
    have hm' : b ∈ (X.env :: X.outer).filterMap (·.frame) := hm
    rw [List.filterMap_cons, q] at hm'
    rcases List.mem_cons.mp hm' with z | z
    · have y1 := Heap.lt_size hb
      have y2 := ok.above
      rw [z] at y1
      exact absurd y1 (Nat.not_lt.mpr y2)
    · exact z
section
variable {X : Cx} {w : Wd} {pins : List (Addr × Obj)} {W : Addr → Bool} {own : Ow} {r : En} {σ : L2.St} {H : Hp} {s : Shared} {kf : Nat} {fv : FvR}
/-- handed on -/
theorem FvAt.later (h : FvAt X w kf fv) (I : Inv X pins σ H s) (S : Stt X.K w W own r σ H) {v : V} {n : Nat} {q : DSpX} (z : fv v n q) : FnV X.prog X.w X.K X.mg X.base w.g W X.stack s H kf v n q := by
  have h2 := h.sub S.sub
  obtain ⟨W0, gW, f, u⟩ := h2.fs
  have F := f v n q z
  have un : Un (frs X.outer) [] X.H_0 H X.s_0.heap s.heap := by
    have := I.base
    rw [h.ex] at this
    exact this
  obtain ⟨fa, o, e1, e2, e3, e4, e5⟩ := F.fn
  refine ⟨⟨fa, o, e1, un.keep fa o e2 e3 e4 (fun z => by cases z), un.free fa o e2 e3 (fun z => by cases z), fun z => e4 (stk_fs I.ok fa o e2 z), e5⟩, F.mp, ?_⟩
  rintro f1 ef A outer1 s1 H1 W1 us vs ds Q E room hG z0 un1 x1 k1 sub wN rel len dv p
  refine F.goes f1 ef A outer1 s1 H1 W1 us vs ds Q E room hG z0 ?_ (u.ext.trans x1) k1 (fun a h => sub a (u.sub a h)) (fun a h => ?_) rel len dv p
  · have a1 : Un (frs X.stack ++ frs X.outer) [] X.H_0 H X.s_0.heap s.heap := un_fs un fun b o _ z => List.mem_append.mpr (.inr z)
    have a2 : Un (frs X.stack ++ frs X.outer) [] H H1 s.heap s1.heap := un_fs un1 fun b o _ z => List.mem_append.mpr (.inl z)
    exact un_fs (a1.trans a2) fun b o hb z => (List.mem_append.mp z).elim (stk_fs I.ok b o hb) id
  · rcases wN a h with y | y
    · exact u.new a y
    · by_cases b : Bd w.g a
      · exact .inl (gW a b)
      · refine .inr ?_
        show X.H_0 a = none
        cases q : X.H_0 a with
        | none => rfl
        | some o =>
          have this : H a = some o := u.ext a o b q
          rw [show H a = none from y] at this
          cases this
end
/-! ### a call of a function that was handed over -/
def dCallV (fv : FvR) (i n : Nat) (R : Xn → En → Prop) (t : TDA) : TDE := fun r Q => ∃ v q, r[i]? = some (.dat (.raw v)) ∧ fv v n q ∧ t r fun ds => ds.length = n ∧ q ds Q fun x => R x r
section
variable {X : Cx} {w : Wd} {kf : Nat} {fv : FvR}
theorem run_V {W : Addr → Bool} {own : Ow} {r : En} {pins : List (Addr × Obj)} {σ : L2.St} {H : Hp} {s : Shared} {Q : VK} {E : XK} {us : List Value} {vs : List V} {ds : List Da} {v : V} {n : Nat} {q : DSpX} {f : Addr} (h : FvAt X w kf fv) (z : fv v n q) (ef : v = .ref f) (room : Room kf X.A) (hG : X.A.guards = some [])
    (px : PassesAt (L2.CX X.prog X.w) X σ E) (I : Inv X pins σ H s) (S : Stt X.K w W own r σ H) (rel : Vals vs us) (dv : DvAll X.K w.g (hid W H) vs ds) (len : ds.length = n) (p : q ds (Aft X.K w.g W H Q) (AftX X.K w.g W H E)) :
    wpAny (model X.prog X.w) X.A (call (.ref f) us) (EP X pins σ Q) X.xe s := by
  have F := h.later I S z
  have all := F.goes f ef X.A X.stack s H W us vs ds Q E room hG I.env0 (un_fs ⟨fun b o hb _ _ _ => hb, fun b o hb _ _ _ => ⟨o.slots, hb⟩, fun b o _ hn _ => hn, fun b o hb _ => ⟨o, hb⟩, fun b xs hb => hb, fun b o u hb => hb, fun b ps hb => ⟨#[], by rw [Array.append_empty]; exact hb⟩⟩ (fun b o _ z => z)) Ext.refl S.ok (fun _ h => h) (fun _ h => .inl h) rel (by rw [dv.len]; exact len) dv p
  refine wpAny_call (codeAny_mono all ?_)
  intro r s' out
  match r, out with
  | .error e, out => exact px pins H s e s' I out
  | .ok (.ret u), out => exact I.after out
  | .ok .next, out => exact out.elim
  | .ok .brk, out => exact out.elim
  | .ok .cont, out => exact out.elim
theorem fnAt_V {W : Addr → Bool} {own : Ow} {r : En} {pins : List (Addr × Obj)} {σ : L2.St} {H : Hp} {s : Shared} {v : V} {n : Nat} {q : DSpX} (h : FvAt X w kf fv) (z : fv v n q) (I : Inv X pins σ H s) (S : Stt X.K w W own r σ H) : ∃ f, v = .ref f ∧ PySem.W.FnAt f s.heap := by
  obtain ⟨f, o, e1, e2, _, _, e5⟩ := (h.later I S z).fn
  exact ⟨f, e1, e5 _ e2⟩
/-- g(), g a parameter -/
theorem ped_callV {i : Nat} {x : Str} {p pos : Pos} {R : Xn → En → Prop} (h : FvAt X w kf fv) (tk : TkD X w R) (room : Room kf X.A) (hG : X.A.guards = some []) (hi : X.N[i]? = some x := by rfl) (vis : Vis X.env.scope x := by exact .inl rfl) (n1 : (x == ("__debug__" : Str)) = false := by decide) (n2 : (x == ("__classdict__" : Str)) = false := by decide) :
    PEd X w (.Call (.Name x p) [] [] pos) (dCallV fv i 0 R dNil) := by
  obtain ⟨Wx, tkx, hW⟩ := tk.ex
  refine ⟨⟨?_⟩, fun r Q Q' q ⟨v, y, h1, h2, z⟩ => ⟨v, y, h1, h2, z.1, h.mp v 0 y h2 _ _ _ _ _ q (fun _ z => z) z.2⟩⟩
  rintro pins s σ H Q I ⟨W, own, r, S, v, y, h1, h2, _, z⟩
  obtain ⟨f, ef, fa⟩ := fnAt_V h h2 I S
  subst ef
  apply wpAny_Call_Name_kw
  obtain ⟨u, q1, q2⟩ := S.dat h1
  cases q2
  refine thn ((pe_var (pos := p) hi vis n1 n2).run pins s σ H (fun v' H' => v' = .ref f ∧ H' = H) I ⟨_, q1, rfl, rfl⟩) ?_
  rintro u1 s1 ⟨v', H', I1, rv, rfl, rfl⟩
  cases rv
  obtain ⟨f', ef', fa1⟩ := fnAt_V h h2 I1 S
  cases ef'
  refine PySem.W.callWith_F0 fa1 ?_
  exact run_V (E := WE Wx σ) h h2 rfl room hG (passAt tkx σ) I1 S .nil .nil rfl (h.mp _ _ _ h2 _ _ _ _ _ (fun d z => z) (fun x y cls d H' e2 k2 at_x => hW x r W own σ H' cls d y (S.ext e2 k2) at_x) z)
end
end Pd
/-! A lambda is made; a call with a lambda as its last argument. -/
namespace Pd
open PySem PySem.Spec PyProof.Rows L2

/-- the code of a def, and where it keeps its own codes -/
structure Maker (base : Heap) (mg : Str → Option Value) (T : List (Addr × Str)) (cd : Value) (q : Str) : Prop where
  ex : ∃ c P, cd = .ref c ∧ LamX.TabB base mg c P ∧ (P, q) ∈ T ∧ ∀ p ∈ T, p.1 = P → p.2 = q
section
variable {X : Cx} {w : Wd} {pins : List (Addr × Obj)} {W : Addr → Bool} {own : Ow} {r : En} {σ : L2.St} {H : Hp} {s : Shared}
theorem lam_make {params : Arguments} {body : Expr} {scope : Scope} {pos : Pos} {E Q : Value → Shared → Prop} (I : Inv X pins σ H s) (k : OkW X.K w.g W H)
    (M : Maker X.base X.mg w.g.tab X.env.code (X.env.qual ++ "<lambda>")) (hdef : defaultsOf params X.env = ([], []))
    (hfree : ∀ y ∈ scope.names, y.2 = .free → ∃ c, X.env.cells.lookup y.1 = some c)
    (h : ∀ (f c' : Addr) (pm ctv : Value) (H1 : Hp) (s' : Shared), Inv X pins σ H1 s' → Ext w.g H H1 → OkW X.K w.g W H1 →
      s'.heap.get? f = some (PySem.W.kla_obj "<lambda>" (X.env.qual ++ "<lambda>") params body scope (cloFrom X.env.cells scope.names []) pm c' ctv) → H1 f = none → f ∉ frs X.stack → H1 c' = some (LamX.CodeO c' (X.env.qual ++ "<lambda>")) → ¬ Bd w.g c' → Q (.ref f) s') :
    wpAny (model X.prog X.w) X.A (eval (.Lambda params body scope pos) X.env) Q E s := by
  obtain ⟨c, P, hcode, TB, hm, hu⟩ := M.ex
  obtain ⟨ps, hP, ht, ha⟩ := k.bag.tabs _ hm
  refine PySem.W.kla_eval hdef ?_
  have bP := TB.bm.keeps I.bk
  have hP' := I.hok P _ hP
  have BP : Bd w.g P := .inr ⟨_, hm⟩
  have nofr : ∀ f, s.heap.objs.size ≤ f → f ∉ frs X.stack := fun f hf z => by
    rcases List.mem_cons.mp (I.stkSub f z) with e | e
    · have h1 := I.lt
      rw [e] at hf
      exact absurd h1 (Nat.not_lt.mpr hf)
    · exact I.nofs hf e
  have nc : ∀ c q, H c = some (LamX.CodeO c q) → ¬ Bd w.g c := fun c q e b => by
    rcases b with b | ⟨q2, b⟩
    · obtain ⟨x, y, z, c0, cs, h1, _⟩ := k.bag.bag c b
      rw [h1] at e
      cases e
    · obtain ⟨ps, h1, _⟩ := k.bag.tabs _ b
      rw [show H c = some (.tbl ps) from h1] at e
      cases e
  cases hc : codeAmong pos ps.toList with
  | some cv =>
    obtain ⟨c', rfl, hc'⟩ := ha pos cv hc
    refine PySem.W.kla_makeFunctionHit (closure_ok hfree) I.ok.glob (I.mod.glob.keeps I.bk) hcode (TB.code.keeps I.bk) hP' ht hc bP fun ctv h' tk hk hsz => ?_
    refine h h'.objs.size c' _ ctv H _ (I.kept fun b u e => Heap.get?_push_of_some _ (hk b u e)) Ext.refl k (Heap.get?_push_size _ rfl) (I.hok.fresh hsz) (nofr _ hsz) hc' (nc _ _ hc')
  | none =>
    refine PySem.W.kla_makeFunction (closure_ok hfree) I.ok.glob (I.mod.glob.keeps I.bk) hcode (TB.code.keeps I.bk) hP' ht hc TB.gP bP fun c' ctv h' tk hx hge hlt hrec htb => ?_
    obtain ⟨c2, oc, vs, t, e2, hoc, hd, hv⟩ := hrec
    cases e2
    have hsz := Nat.le_trans hge (Nat.le_of_lt hlt)
    have nC := I.hok.fresh hge
    have nePc : P ≠ c' := ne_of_none hP nC
    have I1 := LamX.inv_table (t' := tk) I hP (fun b o hb e => Heap.get?_push_of_some (PySem.W.kla_obj "<lambda>" (X.env.qual ++ "<lambda>") params body scope (cloFrom X.env.cells scope.names []) ((X.mg "__name__").getD Value.none) c' ctv) (hx b o hb e))
      (Heap.get?_push_of_some _ htb) hge ⟨oc, vs, t, Heap.get?_push_of_some _ hoc, hd, hv⟩
    have up : ∀ b o, H b = some o → b ≠ P → upd (upd H P (.tbl (ps ++ #[rawInt pos.line, rawInt pos.col, .ref c']))) c' (LamX.CodeO c' (X.env.qual ++ "<lambda>")) b = some o := fun b o e n => by
      rw [upd_ne (ne_of_none e nC), upd_ne n]
      exact e
    have atP : upd (upd H P (.tbl (ps ++ #[rawInt pos.line, rawInt pos.col, .ref c']))) c' (LamX.CodeO c' (X.env.qual ++ "<lambda>")) P = some (.tbl (ps ++ #[rawInt pos.line, rawInt pos.col, .ref c'])) := by
      rw [upd_ne nePc, upd_same]
    have e1 : Ext w.g H (upd (upd H P (.tbl (ps ++ #[rawInt pos.line, rawInt pos.col, .ref c']))) c' (LamX.CodeO c' (X.env.qual ++ "<lambda>"))) :=
      ⟨fun b o nb e => up b o e fun z => nb (z ▸ BP), fun a xs _ e => ⟨xs, up a _ e (fun z => by rw [z, hP] at e; cases e), rfl⟩⟩
    have codes : ∀ b q, H b = some (LamX.CodeO b q) → upd (upd H P (.tbl (ps ++ #[rawInt pos.line, rawInt pos.col, .ref c']))) c' (LamX.CodeO c' (X.env.qual ++ "<lambda>")) b = some (LamX.CodeO b q) := fun b q e => up b _ e (fun z => by rw [z, hP] at e; cases e)
    have k1 : OkW X.K w.g W (upd (upd H P (.tbl (ps ++ #[rawInt pos.line, rawInt pos.col, .ref c']))) c' (LamX.CodeO c' (X.env.qual ++ "<lambda>"))) := by
      refine ⟨⟨fun a hg => ?_, fun p hp => ?_⟩, k.gW, fun a hW => ?_⟩
      · obtain ⟨x, y, z, c0, cs, h1, h2⟩ := k.bag.bag a hg
        obtain ⟨q1, q2⟩ := hid_some h2
        exact ⟨x, y, z, c0, cs, up a _ h1 (fun z => by rw [z, hP] at h1; cases h1), by rw [hid_no q1]; exact up c0 _ q2 (fun z => by rw [z, hP] at q2; cases q2)⟩
      · by_cases hb : p.1 = P
        · rw [hu p hp hb, hb]
          refine ⟨_, atP, ?_, fun pos' cv' hcv => ?_⟩
          · rw [Array.toList_append]
            exact TriplesOk_snoc _ _ _ _ ht
          · rw [Array.toList_append] at hcv
            rcases LamX.among_app _ ht hcv with z | z
            · obtain ⟨c3, e3, h3⟩ := ha pos' cv' z
              exact ⟨c3, e3, codes _ _ h3⟩
            · exact ⟨c', z, upd_same⟩
        · obtain ⟨ps', h1, h2, h3⟩ := k.bag.tabs p hp
          refine ⟨ps', up _ _ h1 hb, h2, fun pos' cv' hcv => ?_⟩
          obtain ⟨c3, e3, h4⟩ := h3 pos' cv' hcv
          exact ⟨c3, e3, codes _ _ h4⟩
      · obtain ⟨o, e⟩ := k.al a hW
        by_cases z : a = P
        · exact ⟨_, by rw [z]; exact atP⟩
        · exact ⟨o, up a o e z⟩
    refine h h'.objs.size c' _ ctv _ _ I1 e1 k1 (Heap.get?_push_size _ rfl) ?_ (nofr _ hsz) upd_same ?_
    · have n1 : h'.objs.size ≠ c' := Nat.ne_of_gt hlt
      have n2 : h'.objs.size ≠ P := Nat.ne_of_gt (Heap.lt_size htb)
      rw [upd_ne n1, upd_ne n2]
      exact I.hok.fresh hsz
    · intro b
      obtain ⟨o, z⟩ := k.bag.al b
      rw [nC] at z; cases z

/-! ### arguments that end in a lambda -/
structure PLd (X : Cx) (w : Wd) (kf : Nat) (tb : (Xn → En → Prop) → TDE) (es : List Expr) (t : TDA) : Prop where
  run : ∀ (pos : Pos) (pins : List (Addr × Obj)) (s : Shared) (σ : L2.St) (H : Hp) (W : Addr → Bool) (own : Ow) (r : En) (P : List Da → Prop) (Q : List Value → Shared → Prop), Inv X pins σ H s → Stt X.K w W own r σ H → t r P →
    (∀ (vs : List V) (us : List Value) (ds : List Da) (f : Addr) (H1 : Hp) (s1 : Shared), Inv X pins σ H1 s1 → Ext w.g H H1 → OkW X.K w.g W H1 → DvAll X.K w.g (hid W H1) vs ds → Vals vs us → P ds → FnV X.prog X.w X.K X.mg X.base w.g W X.stack s1 H1 kf (.ref f) 0 (pLam r tb) → Q (us ++ [.ref f]) s1) →
    wpAny (model X.prog X.w) X.A (spliced (backTo pos (starEach es X.env))) Q X.xe s
  mo : ∀ r Q Q', (∀ ds, Q ds → Q' ds) → t r Q → t r Q'
/-- what is asked of a lambda without parameters -/
structure Lam0 (X : Cx) (w : Wd) (params : Arguments) (body : Expr) (scope : Scope) (k : Nat) (tb : (Xn → En → Prop) → TDE) : Prop where
  M : Maker X.base X.mg w.g.tab X.env.code (X.env.qual ++ "<lambda>")
  dflt : defaultsOf params X.env = ([], [])
  L : LamX.LamS X.env.scope scope
  bind : ∀ (q : Str) (cl : List (Str × Addr)) (pm cv ctv : Value), bindArgs (PySem.W.kla_fn "<lambda>" q params body scope cl pm cv ctv) {} = pure []
  mt : ∀ R R' : Xn → En → Prop, (∀ x r, R x r → R' x r) → ∀ r Q, tb R r Q → tb R' r Q
  mo : ∀ (R : Xn → En → Prop) r Q Q', (∀ d, Q d → Q' d) → tb R r Q → tb R r Q'
  body_ok : ∀ (A : Around) (outer : List Env) (s1 : Shared) (H1 : Hp) (E : XK) (f c' : Addr) (w1 : Wd) (R : Xn → En → Prop), w1.g = w.g → Room k (A.deeper (LamX.lamEnv X scope s1.heap.objs.size f c')) → A.guards = some [] →
      TkD (LamX.lamCx X A outer s1 H1 E scope f c') w1 R → PEd (LamX.lamCx X A outer s1 H1 E scope f c') w1 body (tb R)
theorem pld_nil {params : Arguments} {body : Expr} {scope : Scope} {lpos : Pos} {k : Nat} {tb : (Xn → En → Prop) → TDE} (L : Lam0 X w params body scope k tb) (st : starEach [.Lambda params body scope lpos] X.env = (false, eval (.Lambda params body scope lpos) X.env) :: starEach [] X.env := by rfl) :
    PLd X w (k + 1) tb [.Lambda params body scope lpos] dNil := by
  refine ⟨?_, fun r Q Q' q h => q _ h⟩
  intro pos pins s σ H W own r P Q I S p q
  refine spliced_more (lam_make I S.ok L.M L.dflt (LamX.LamS.has L.L I.ok) ?_) st
  intro f c' pm ctv H1 s1 I1 e1 k1 hf nf ns hc nb
  refine spliced_none (q [] [] [] f H1 s1 I1 e1 k1 .nil .nil p (lam_fnv I1 (S.ext e1 k1) L.L hf nf ns hc nb (L.bind _ _ _ _ _) L.mt L.mo (fun A outer s1 H1 E w1 R g room hG tk => L.body_ok A outer s1 H1 E f c' w1 R g room hG tk)))
end
end Pd
/-! Calls of defs that are handed functions; such defs by their bodies; a try in them. -/
namespace Pd
open PySem PySem.Spec PyProof.Rows L2
def dCallL (p : DSpG) (R : Xn → En → Prop) (tb : (Xn → En → Prop) → TDE) (t : TDA) : TDE := fun r Q => t r fun ds => ∀ (v : V) (fv : FvR), (∀ v n q, fv v n q → MoPX q) → fv v 0 (pLam r tb) → p fv (ds ++ [.raw v]) Q fun x => R x r
section
variable {X : Cx} {w : Wd}
theorem run_S {CX : CXT} {k : Nat} {f : Addr} {fd : FuncData} {ps : List Str} {sp : SpS} {E : XK} {pins : List (Addr × Obj)} {σ : L2.St} {H : Hp} {s : Shared} {Q : VK} {us : List Value} {vs : List V} (F : FnS X.prog X.w X.K X.mg X.base CX k f fd ps sp) (room : Room k X.A) (hG : X.A.guards = some [])
    (bd : Binds X.K fd ps []) (px : PassesAt CX X σ E) (I : Inv X pins σ H s) (rel : Vals vs us) (pre : sp X.stack s vs H Q E) : wpAny (model X.prog X.w) X.A (call (.ref f) us) (EP X pins σ Q) X.xe s := by
  have len2 : (us ++ ([] : List Value)).length = ps.length := by
    rw [List.append_nil]
    exact rel.length.symm.trans (F.many _ _ _ _ _ _ pre)
  have b := bd s us I.kIn len2
  rw [List.append_nil] at b
  have all := F.goes X.A X.stack s H ⟨us, []⟩ us vs Q E room hG I.env0 b rel pre
  refine wpAny_call (codeAny_mono all ?_)
  intro r s' out
  match r, out with
  | .error e, out => exact px pins H s e s' I out
  | .ok (.ret u), out => exact I.after out
  | .ok .next, out => exact out.elim
  | .ok .brk, out => exact out.elim
  | .ok .cont, out => exact out.elim
theorem DvAll.snoc {K : PySem.W.Frag} {g : Gd} {H : Hp} {vs : List V} {ds : List Da} {v : V} (h : DvAll K g H vs ds) : DvAll K g H (vs ++ [v]) (ds ++ [.raw v]) := h.app (.cons .raw .nil)
/-- f(.., lambda: ..) -/
theorem ped_fL {x : Str} {p pos : Pos} {T : List (Addr × Str)} {kf k : Nat} {ps : List Str} {sp : DSpG} {tb : (Xn → En → Prop) → TDE} {t : TDA} {e : Expr} {es : List Expr} {R : Xn → En → Prop} (hT : w.g.tab = T) (tk : TkD X w R) (c : CalldG X.prog X.w X.K X.mg X.base T kf k x ps sp) (room : Room k X.A) (hG : X.A.guards = some []) (args : PLd X w kf tb (e :: es) t)
    (mt : ∀ (R : Xn → En → Prop) r Q Q', (∀ d, Q d → Q' d) → tb R r Q → tb R r Q')
    (gl : Gl X x := by rfl) (nd : (x == ("__debug__" : Str)) = false := by decide)
    (st : starEach (e :: es) X.env = (false, eval e X.env) :: starEach es X.env := by rfl) (bk : (backTo pos (starEach es X.env)).any (·.1) = false := by rfl) : PEd X w (.Call (.Name x p) (e :: es) [] pos) (dCallL sp R tb t) := by
  obtain ⟨⟨f, fd, F, at_x, kp, bd⟩, mp⟩ := c
  obtain ⟨Wx, tkx, hW⟩ := tk.ex
  refine ⟨⟨?_⟩, fun r Q Q' q h => args.mo _ _ _ (fun ds z v fv m hv => mp fv m _ _ _ _ _ q (fun _ y => y) (z v fv m hv)) h⟩
  rintro pins s σ H Q I ⟨W, own, r, S, h⟩
  apply wpAny_Call_Name_kw
  apply ld_glob I gl at_x _ nd
  refine PySem.W.callWith_K (h₀ := X.base) I.ok.mod.kin kp (args.run pos pins s σ H W own r _ _ I S h ?_) st bk
  intro vs us ds fl H1 s1 I1 e1 k1 dv rel z Fv
  refine ⟨I1.kIn, run_S (E := WE Wx σ) (vs := vs ++ [.ref fl]) F room hG bd (passAt tkx σ) I1 (rel.append (.cons (show RelV (.ref fl) (.ref fl) from rfl) .nil)) ?_⟩
  refine ⟨w.g, W, ds ++ [.raw (.ref fl)], k1, hT, dv.snoc, ?_⟩
  refine mp _ (fun v n q y => FnV.mp y) _ _ _ _ _ (fun d q => q.then e1) (fun x y => ?_) (z (.ref fl) _ (fun v n q y => FnV.mp y) Fv)
  intro cls d H' e2 k2 at_x
  exact hW x r W own σ H' cls d y (S.ext (e1.trans e2) k2) at_x
end
/-- a def that is handed functions, by its body -/
theorem defG {P : Program} {wd : World} {K : PySem.W.Frag} {mg : Str → Option Value} {base : Heap} {x : Str} {st : Stmt} {N ps : List Str} {T : List (Addr × Str)} {kf k : Nat} {p : DSpG} (At : DefAt K mg x st ps)
    (S : FnScope N ps (defScope st)) (len : ∀ fv ds Q R, p fv ds Q R → ds.length = ps.length) (mp : MoPG p)
    (inside : ∀ (f : Addr) (cdv : Value) (A : Around) (outer : List Env) (s0 : Shared) (H : Hp) (E : XK) (w : Wd) (fv : FvR) (ds : List Da) (Q : Da → Prop) (R : Xn → Prop), Room k (A.deeper (envOfC x (defScope st) s0.heap.objs.size f cdv)) → A.guards = some [] → w.g.tab = T →
      FvAt (cxOf (L2.CX P wd) P wd K mg base N x (defScope st) f cdv A outer s0 H E) w kf fv → TkD (cxOf (L2.CX P wd) P wd K mg base N x (defScope st) f cdv A outer s0 H E) w (fun x _ => R x) → p fv ds Q R →
      ∃ t, PSsd (cxOf (L2.CX P wd) P wd K mg base N x (defScope st) f cdv A outer s0 H E) w (defBody st) t ∧ t { nx := fun _ => Q .non, rt := Q } (startD N ds)) :
    CalldG P wd K mg base T kf (k + 1) x ps p := by
  obtain ⟨f, fd, F, a, b⟩ := At.ex
  refine ⟨⟨f, fd, ?_, a, F.kp, b⟩, mp⟩
  obtain ⟨oc, od, kV, doc, pm, an, cdv, ct, osl, rfl, at_f, at_c⟩ := F.ex
  apply fnS_of at_f at_c S
  · rintro o s vs H Q E ⟨g, W, ds, k1, _, dv, h⟩
    rw [dv.len]
    exact len _ _ _ _ h
  · rintro A outer s0 H vs Q E room hG ⟨g, W, ds, k1, hT, dv, h⟩
    have tk : TkD (cxOf (L2.CX P wd) P wd K mg base N x (defScope st) f cdv A outer s0 H E) ⟨H, g, W⟩ (fun x _ => AftX K g W H E x) := by
      refine ⟨fun cls d _ H => E cls d H, takes_of rfl rfl rfl rfl, fun x r W' own σ H' cls d h S at_x => ?_⟩
      refine h cls d H' S.base (S.ok.less S.w0 S.g0) ⟨at_x.1, at_x.2.mono (hid_le S.w0)⟩
    have fvat : FvAt (cxOf (L2.CX P wd) P wd K mg base N x (defScope st) f cdv A outer s0 H E) ⟨H, g, W⟩ kf (fun v n q => FnV P wd K mg base g W outer s0 H kf v n q) :=
      ⟨rfl, W, k1.gW, fun v n q z => z, WdSub.refl⟩
    obtain ⟨t, ht, hq⟩ := inside f cdv A outer s0 H E ⟨H, g, W⟩ _ ds _ _ room hG hT fvat tk h
    refine ⟨_, ht.ps, W, fun _ _ => False, startD N ds, start_stt k1 dv, ht.mo { nx := fun _ => Aft K g W H Q .non, rt := Aft K g W H Q } _ _ ⟨fun r' q W' o' σ' H' g' S' => ?_, fun d q v H' e1 k2 d2 => q v H' e1 k2 d2, fun _ q => q.elim, fun _ q => q.elim⟩ hq⟩
    have z := ret_ok (E := { nx := fun _ H' => Q .non H', rt := Q }) (d := .non) (v := V.non) S' (fun v H1 e1 k2 d2 => q v H1 e1 k2 d2) H' Ext.refl S'.ok .non
    exact z
section
variable {X : Cx} {w : Wd} {x n : Str} {c : Value} {i : Nat} {body suite : List Stmt} {b₀ : Stmt} {np pos pos' : Pos} {tb : (Xn → En → Prop) → TDS} {ts : Addr → Option Addr → Xn → TDS}
/-- as psd_try, the body's world told -/
theorem psd_tryG (hN : X.N.Nodup) (hc : Names X x c)
    (hb : ∀ (pn : List (Addr × Obj)) (xe : Value → Shared → Prop) (w' : Wd) (R : Xn → En → Prop), WdSub w w' → TkD (X.tr pn xe) w' R → PSsd (X.tr pn xe) w' body (tb R))
    (mb : ∀ R R' : Xn → En → Prop, (∀ x r, R x r → R' x r) → ∀ E r, tb R E r → tb R' E r)
    (hsu : ∀ (a : Addr) (oe : Obj) (d : Option Addr) (pn : List (Addr × Obj)) (x : Xn), Zc (.ref x.C) d oe → (∃ vs, oe.data = .fields vs) → PSsd (X.suite a ((a, oe) :: pn)) w (b₀ :: suite) (ts a d x))
    (hi : X.N[i]? = some n := by rfl) (hln : X.env.kindOf n = some .local := by rfl) (hs : X.stack = X.env :: X.outer := by rfl) (hf : X.env.frame = some X.env.locals := by rfl) :
    PSd X w (.Try body [.ExceptHandler (some (.Name x np)) (some n) (b₀ :: suite) pos'] [] [] pos) (dTry X.K i c tb ts) := by
  have mE : ∀ R, MoS (tb R) := fun R => (hb [] (fun _ _ => True) w R WdSub.refl (tk_any R)).mo
  have mS : ∀ a d x, MoS (ts a d x) := fun a d x => (hsu a { cls := .ref x.C, dict := d, data := .fields #[] } d [] x ⟨rfl, rfl⟩ ⟨_, rfl⟩).mo
  let tsL : Addr → Value → Option Addr → TS := fun a cls d D σ H => ∃ (x : Xn) (W : Addr → Bool) (own : Ow) (r : En), cls = .ref x.C ∧ Stt X.K w W own r σ H ∧ ts a d x (endD X.K w W H D) r
  let tbL : WX → TS := fun Wx D σ H => ∃ (W : Addr → Bool) (r : En) (R : Xn → En → Prop), WdSub w ⟨H, w.g, W⟩ ∧ Stt X.K ⟨H, w.g, W⟩ W (fun _ _ => False) r σ H ∧
    (∀ (x : Xn) (r2 : En) (W2 : Addr → Bool) (own2 : Ow) (σ2 : L2.St) (H2 : Hp) (cls : Value) (d : Option Addr), R x r2 → Stt X.K ⟨H, w.g, W⟩ W2 own2 r2 σ2 H2 → XnAt X.K w.g (hid W2 H2) x cls d → Wx cls d σ2 H2) ∧ tb R (endD X.K ⟨H, w.g, W⟩ W H D) r
  refine ⟨weS (ps_try_as (i := i) (tb := tbL) (ts := tsL) (Wout := fun _ _ _ _ => False) hs hf hN hi hln hc takes0 (fun Wx pn xe tk _ => ?_) (fun a oe cls d pn hz hf => ?_)) ?_, ?_⟩
  · refine ⟨fun pins s σ H D I h => ?_⟩
    obtain ⟨W, r, R, sb, S, hR, z⟩ := h
    exact (hb pn xe ⟨H, w.g, W⟩ R sb ⟨Wx, tk, fun x r2 W2 own2 σ2 H2 cls d a b c => hR x r2 W2 own2 σ2 H2 cls d a b c⟩).ps.run pins s σ H D I ⟨W, _, r, S, z⟩
  · refine ⟨fun pins s σ H D I h => ?_⟩
    obtain ⟨x, W, own, r, ec, S, z⟩ := h
    subst ec
    exact (hsu a oe d pn x hz hf).ps.run pins s σ H D I ⟨W, own, r, S, z⟩
  · rintro D σ H ⟨W, own, r, S, pl, h⟩
    have S0 := S.rebase pl
    refine ⟨W, r, _, S.sub, S0, ?_, mE _ _ _ _ ?_ h⟩
    · rintro x r2 W2 own2 σ2 H2 cls d ⟨hx, nk, hall⟩ S2 at_x
      have S3 := S.lift S2
      refine ⟨true, by rw [at_x.1]; exact hx, fun _ a na => ?_, fun z => nomatch z⟩
      obtain ⟨own3, S4⟩ := S3.set (i := i) (excD_of (a := a) nk at_x.2)
      refine ⟨x, W2, own3, _, at_x.1, S4, mS a d x { nx := fun _ => False, rt := (endD X.K w W H D).rt } _ _ ⟨fun _ z => False.elim z, fun dd z => z, fun _ z => False.elim z, fun _ z => False.elim z⟩ (hall a d)⟩
    · refine ⟨fun r' z W' o' σ' H' g' S' => z W' o' σ' H' g' (S.lift S'), fun d z v H' e k dv => ?_, fun r' z W' o' σ' H' g' S' => z W' o' σ' H' g' (S.lift S'), fun r' z W' o' σ' H' g' S' => z W' o' σ' H' g' (S.lift S')⟩
      refine z v H' (S.base.trans e) (k.less S.w0 S.g0) (Dv.mono (hid_le S.w0) _ _ dv)
  · rintro E E' r l ⟨pl, h⟩
    refine ⟨pl, mb _ _ (fun x r2 ⟨h1, h2, h3⟩ => ⟨h1, h2, fun a d => mS a d x { nx := fun _ => False, rt := E.rt } _ _ ⟨fun _ z => False.elim z, fun dd z => l.rt dd z, fun _ z => False.elim z, fun _ z => False.elim z⟩ (h3 a d)⟩) _ _ (mE _ _ _ _ l h)⟩
end
end Pd
/-! The head of a law whose defs make lambdas: the tables of their codes are tracked, too. -/
namespace Pd
open PySem PySem.Spec PyProof.Rows L2
section
variable {P : Program} {wd : World} {K : PySem.W.Frag} {mg mb : Str → Option Value} {k : Nat} {fa a : Addr} {fd : FuncData} {x : Str} {sp : Sp} {s1 : Shared} {us : List Value} {ns : List Int} {cs : List (Addr × Addr)}
theorem top_inT (inK : K.In s1.heap) (gl : s1.heap.Ns mainGlobals mg) (bu : s1.heap.Ns builtinsNs mb) (bo : ∀ y : Str, y ≠ "__name__" → mb y = bootBuiltins y) (nl : s1.heap.NoLimit) (g0 : s1.gens = #[])
    (tab : ∀ p ∈ cs, s1.heap.get? p.2 = some (PySem.W.tabObj #[])) (noK : ∀ p ∈ cs, K.lookup p.2 = none) (cod : ∀ p ∈ cs, PySem.W.CodeHd s1.heap p.1 p.2)
    (bmain : ∃ bm ob, mg "__builtins__" = some (.ref bm) ∧ bm ≠ builtinsNs ∧ s1.heap.get? bm = some ob ∧ ob.cls = .type "module" ∧ ob.dict = some builtinsNs ∧ ob.data = .plain)
    (at_a : s1.heap.get? a = some { cls := .type "list", data := .seq us.toArray }) (room : Room k callerA)
    (sy : ∃ mm, s1.heap.Ns sysModules mm) (F : ∀ base : Heap, K.In base → base.Ns mainGlobals mg → (∃ o, base.get? sysModules = some o) → (∀ p ∈ cs, LamX.TabB base mg p.1 p.2) → FnG P wd K mg base CX0 k fa fd [x] sp) (bd : ∀ (s : Shared) (u : Value), BindsTo s fd ⟨[u], []⟩ [(x, u)])
    (pre : ∀ H : Hp, (∀ p ∈ cs, H p.2 = some (.tbl #[])) → SqL K H a (ns.map V.int) → sp [.ref a] H (fun v _ => v = .bl true) fun _ _ _ => False)
    (H : Hp) (script : SqL K H a (ns.map V.int)) (tbs : ∀ p ∈ cs, H p.2 = some (.tbl #[])) (fits : HOk P wd H s1.heap) (sole : ∀ b u, H b = some u → (b = a ∧ K.lookup a = none ∧ ∃ o xs, u = .frz o (.lst xs)) ∨ (u = .tbl #[] ∧ ∃ c, (c, b) ∈ cs)) :
    codeAny (model P wd) callerA (.call (.ref fa) ⟨[.ref a], []⟩) (Told s1) s1 := by
  have plain : ∀ {b : Addr} {o : Obj}, s1.heap.get? b = some o → (∀ us : List Value, o ≠ { cls := .type "list", data := .seq us.toArray }) → o ≠ PySem.W.tabObj #[] → H b = none := fun {b o} at_b n1 n2 => by
    cases e : H b with
    | none => rfl
    | some u =>
      exfalso
      rcases sole b u e with ⟨z, _⟩ | ⟨_, c, z⟩
      · rw [z, at_a] at at_b
        exact n1 us (Option.some.inj at_b).symm
      · have t := tab _ z
        rw [show s1.heap.get? b = some (PySem.W.tabObj #[]) from t] at at_b
        exact n2 (Option.some.inj at_b).symm
  have seen : ∀ {b : Addr} {m : Str → Option Value}, s1.heap.Ns b m → (hidT s1.heap H).Ns b m := by
    rintro b m ⟨o, es, ep, at_b, isd, rest⟩
    refine ⟨o, es, ep, hidT_get at_b (plain at_b (fun us z => ?_) fun z => ?_), isd, rest⟩
    · rw [z] at isd
      cases isd
    · rw [z] at isd
      cases isd
  have inB : K.In (hidT s1.heap H) := fun b o at_b => by
    refine hidT_get (inK b o at_b) ?_
    cases e : H b with
    | none => rfl
    | some u =>
      rcases sole b u e with ⟨z1, z2, _⟩ | ⟨_, c, z⟩
      · rw [z1, z2] at at_b
        cases at_b
      · rw [show K.lookup b = none from noK _ z] at at_b
        cases at_b
  have lim : (hidT s1.heap H).NoLimit := by
    obtain ⟨mc, q1, q2⟩ := nl
    exact ⟨mc, seen q1, q2⟩
  have start0 : Env0 P wd K mg (hidT s1.heap H) callerA [] s1 H :=
    ⟨rfl, ⟨inB, seen gl, ⟨mb, seen bu, bo⟩, lim⟩, fun b o e => of_hidT e, Nat.le_of_eq (hidT_size _ _), trivial, fun b z => absurd (show b ∈ ([] : List Addr) from z) List.not_mem_nil, fits, .of_eq g0⟩
  have has : ∃ o, (hidT s1.heap H).get? sysModules = some o := by
    obtain ⟨mm, q⟩ := sy
    obtain ⟨o, es, ep, z, _⟩ := seen q
    exact ⟨o, z⟩
  have tbB : ∀ p ∈ cs, LamX.TabB (hidT s1.heap H) mg p.1 p.2 := fun p hp => by
    have nG : mainGlobals ≠ p.2 := fun z => by
      obtain ⟨o, es, ep, at_b, isd, _⟩ := gl
      rw [z, tab p hp] at at_b
      rw [← Option.some.inj at_b] at isd
      cases isd
    refine ⟨?_, ?_, nG⟩
    · obtain ⟨o, vs, file, tf, flags, tg, inF, text, tt, h1, h2, h3⟩ := cod p hp
      refine ⟨o, vs, file, tf, flags, tg, inF, text, tt, hidT_get h1 (plain h1 (fun us z => ?_) fun z => ?_), h2, h3⟩
      · rw [z] at h2
        exact absurd (Value.type.inj h2) (by decide)
      · rw [z] at h2
        cases h2
    · obtain ⟨bm, ob, b1, b2, b3, b4, b5, b6⟩ := bmain
      refine ⟨bm, ob, b1, b2, fun z => ?_, fun z => ?_, hidT_get b3 (plain b3 (fun us z => ?_) fun z => ?_), b4, b5, b6⟩
      · obtain ⟨o, es, ep, at_b, isd, _⟩ := gl
        rw [← z, b3] at at_b
        rw [← Option.some.inj at_b, b6] at isd
        cases isd
      · rw [z, tab p hp] at b3
        rw [← Option.some.inj b3] at b4
        cases b4
      · rw [z] at b4
        exact absurd (Value.type.inj b4) (by decide)
      · rw [z] at b4
        cases b4
  have all := (F _ inB (seen gl) has tbB).goes callerA [] s1 H ⟨[.ref a], []⟩ [.ref a] [.ref a] _ _ room rfl start0 (bd s1 (.ref a)) (.cons rfl .nil) (pre H tbs script)
  refine codeAny_mono all ?_
  rintro (e | fl) s2 out
  · exact False.elim out
  · match fl, out with
    | .next, out => exact out.elim
    | .brk, out => exact out.elim
    | .cont, out => exact out.elim
    | .ret u, out =>
      obtain ⟨v, H2, sameOs, bare, un, fits2, rel, yes⟩ := out
      have yes' : v = .bl true := yes
      subst yes'
      have eu : u = Value.bool true := rel
      subst eu
      refine ⟨rfl, ⟨?_, ?_⟩, sameOs, bare⟩
      · intro b o at_b
        cases e : H b with
        | none => exact .inl (un.keep b o at_b e (fun z => List.not_mem_nil (show b ∈ ([] : List Addr) from z)) (by simp))
        | some u =>
          rcases sole b u e with ⟨_, _, o', xs, z⟩ | ⟨z, c, hc⟩
          · rw [z] at e
            have t1 := (fits b _ e).1
            have t2 := (fits2 b _ (un.frzs b o' _ e)).1
            rw [at_b] at t1
            rw [Option.some.inj t1]
            exact .inl t2
          · rw [z] at e
            obtain ⟨more, e2⟩ := un.tbls b _ e
            have t1 : s1.heap.get? b = some (PySem.W.tabObj #[]) := fits b _ e
            have t2 : s2.heap.get? b = some (PySem.W.tabObj (#[] ++ more)) := fits2 b _ e2
            rw [at_b] at t1
            have eo := Option.some.inj t1
            subst eo
            exact .inr (.inl ⟨((cod _ hc).tab at_b).isCodeTable, rfl, #[], more, rfl, t2⟩)
      · intro b o at_b
        exact un.there b o at_b (by simp)
theorem top_callT (inK : K.In s1.heap) (gl : s1.heap.Ns mainGlobals mg) (bu : s1.heap.Ns builtinsNs mb) (bo : ∀ y : Str, y ≠ "__name__" → mb y = bootBuiltins y) (nl : s1.heap.NoLimit) (g0 : s1.gens = #[])
    (tab : ∀ p ∈ cs, s1.heap.get? p.2 = some (PySem.W.tabObj #[])) (noK : ∀ p ∈ cs, K.lookup p.2 = none) (cod : ∀ p ∈ cs, PySem.W.CodeHd s1.heap p.1 p.2)
    (bmain : ∃ bm ob, mg "__builtins__" = some (.ref bm) ∧ bm ≠ builtinsNs ∧ s1.heap.get? bm = some ob ∧ ob.cls = .type "module" ∧ ob.dict = some builtinsNs ∧ ob.data = .plain)
    (at_a : s1.heap.get? a = some { cls := .type "list", data := .seq us.toArray }) (iv : IntsAre us ns) (le : ns.length ≤ sizeLine) (room : Room k callerA)
    (sy : ∃ mm, s1.heap.Ns sysModules mm) (F : ∀ base : Heap, K.In base → base.Ns mainGlobals mg → (∃ o, base.get? sysModules = some o) → (∀ p ∈ cs, LamX.TabB base mg p.1 p.2) → FnG P wd K mg base CX0 k fa fd [x] sp) (bd : ∀ (s : Shared) (u : Value), BindsTo s fd ⟨[u], []⟩ [(x, u)])
    (pre : ∀ H : Hp, (∀ p ∈ cs, H p.2 = some (.tbl #[])) → SqL K H a (ns.map V.int) → sp [.ref a] H (fun v _ => v = .bl true) fun _ _ _ => False) :
    codeAny (model P wd) callerA (.call (.ref fa) ⟨[.ref a], []⟩) (Told s1) s1 := by
  have rel := ints_vals iv
  have hl := iv.length
  have anT : ∀ p ∈ cs, p.2 ≠ a := fun p hp z => by
    have t := tab p hp
    rw [z, at_a] at t
    cases t
  let tb : Hp := fun b => if cs.any (fun p => decide (p.2 = b)) = true then some (.tbl #[]) else none
  have tb_at : ∀ p ∈ cs, tb p.2 = some (.tbl #[]) := fun p hp => if_pos (List.any_eq_true.mpr ⟨p, hp, decide_eq_true rfl⟩)
  have tb_of : ∀ b u, tb b = some u → u = .tbl #[] ∧ ∃ c, (c, b) ∈ cs := fun b u z => by
    have z' : (if cs.any (fun p => decide (p.2 = b)) = true then some (HO.tbl #[]) else none) = some u := z
    split at z'
    · rename_i q
      obtain ⟨p, h1, h2⟩ := List.any_eq_true.mp q
      exact ⟨(Option.some.inj z').symm, p.1, by rw [← of_decide_eq_true h2]; exact h1⟩
    · cases z'
  cases e : K.lookup a with
  | some o =>
    have t := inK a o e
    rw [at_a] at t
    cases t
    refine top_inT inK gl bu bo nl g0 tab noK cod bmain at_a room sy F bd pre tb (.inr ⟨_, us.toArray, _, e, rfl, rfl, rfl, ?_, ?_⟩) tb_at (fun b u z => ?_) (fun b u z => .inr (tb_of b u z))
    · rw [List.size_toArray, hl]
      exact le
    · simpa using rel
    · obtain ⟨rfl, c, hc⟩ := tb_of b u z
      exact tab _ hc
  | none =>
    have only : ∀ b u, (if b = a then some (HO.frz { cls := .type "list", data := .seq us.toArray } (.lst (ns.map V.int))) else tb b) = some u → (b = a ∧ u = HO.frz { cls := .type "list", data := .seq us.toArray } (.lst (ns.map V.int))) ∨ tb b = some u := fun b u z => by
      by_cases q : b = a
      · rw [if_pos q] at z
        exact .inl ⟨q, (Option.some.inj z).symm⟩
      · rw [if_neg q] at z
        exact .inr z
    refine top_inT inK gl bu bo nl g0 tab noK cod bmain at_a room sy F bd pre (fun b => if b = a then some (.frz { cls := .type "list", data := .seq us.toArray } (.lst (ns.map V.int))) else tb b) (.inl (.inr ⟨_, if_pos rfl⟩)) (fun p hp => by rw [if_neg (anT p hp)]; exact tb_at p hp) (fun b u z => ?_) (fun b u z => ?_)
    · rcases only b u z with ⟨q1, q2⟩ | q
      · subst q1 q2
        exact ⟨at_a, by rw [List.length_map]; exact le, us, _, rel, at_a⟩
      · obtain ⟨rfl, c, hc⟩ := tb_of b u q
        exact tab _ hc
    · rcases only b u z with ⟨q1, q2⟩ | q
      · exact .inl ⟨q1, e, _, _, q2⟩
      · exact .inr (tb_of b u q)
end
/-- the goal that is left for the law's promise -/
theorem top_walkT {l : PySem.W.OpenLaw} {n k : Nat} {q : Program} {loose : List Str} {XP : (Str → Option Value) → Heap → Prop} {YP : World → Heap → Prop} {d : DefRec} {K : Params → PySem.W.Frag} {x : Str}
    (imp : importsNone q = true) (most : l.most = some n) (le : n ≤ sizeLine) (h63 : n ≤ 63) (nodef : d.params.defaults = []) (room : Room k callerA) (inY : ∀ (w : World) (h : Heap), YP w h → (K w.params).In h)
    (F : ∀ (w : World) (mg : Str → Option Value) (fa : Addr) (h : Heap), YP w h → (K w.params).In h → h.Ns mainGlobals mg → mg d.name = some (.ref fa) →
      ∃ (fd : FuncData) (cs : List (Addr × Addr)) (T : List (Addr × Str)), (∀ (s : Shared) (u : Value), BindsTo s fd ⟨[u], []⟩ [(x, u)]) ∧ (∀ p ∈ cs, h.get? p.2 = some (PySem.W.tabObj #[])) ∧ (∀ p ∈ cs, (K w.params).lookup p.2 = none) ∧ (∀ p ∈ cs, PySem.W.CodeHd h p.1 p.2) ∧ (∀ p ∈ T, ∃ c, (c, p.1) ∈ cs) ∧
        ∀ base : Heap, (K w.params).In base → base.Ns mainGlobals mg → (∃ o, base.get? sysModules = some o) → (∀ p ∈ cs, LamX.TabB base mg p.1 p.2) → FnG l.prog w (K w.params) mg base CX0 k fa fd [x] (spLawT (K w.params) T)) :
    PySem.W.WalkO q loose XP YP l.row.toRowW d [] (fun f vs => PySem.call f vs) := by
  apply Att.attach_call most nodef
  intro w s0 s1 mg mb fa o pm cd doc a us ns G Y at_f isf hc at_x at_a iv hl g0
  obtain ⟨fd, cs, T, bd, tab, noK, cod, hT, prom⟩ := F w mg fa s1.heap Y (inY w _ Y) G.T.g at_x
  refine top_callT (inY w _ Y) G.T.g G.T.b G.T.builtins G.T.nolimit g0 tab noK cod G.T.bmain at_a iv (Nat.le_trans hl le) room (G.T.seer imp).mods' prom bd fun H tbs script => ⟨fun p hp => ?_, a, ns, rfl, script, Nat.le_trans hl h63, fun _ => rfl⟩
  obtain ⟨c, hc⟩ := hT p hp
  exact tbs _ hc
end Pd
/-! raise C(), C an own error class without __init__. -/
namespace Pd
open PySem PySem.Spec PyProof.Rows L2
def veTail : List Value := [.type "ValueError", .type "Exception", .type "BaseException", .type "object"]
structure ErrZ (K : PySem.W.Frag) (mg : Str → Option Value) (x : Str) (C : Addr) : Prop where
  gC : mg x = some (.ref C)
  q : PySem.W.excIn K C veTail "ValueError.__new__" = true
  kC : PySem.W.keepIn K (.ref C) = true
  sub : PySem.W.subIn K (.ref C) (.type "BaseException") = some true
  ty : PySem.W.typeIn K (.ref C) = some (.type "type")
section
variable {X : Cx} {w : Wd}
end
end Pd
/-! min(d.values(), default=n). -/
namespace Pd
open PySem PySem.Spec PyProof.Rows L2
section
variable {prog : Program} {w : World} {A : Around} {R : Result → Shared → Prop} {I : Addr} {fp wr : List Addr} {n : Nat} {P : Nat → Value → Prop} {St : Nat → Heap → Prop}
end
/-! ### as data -/
section
variable {X : Cx} {w : Wd} {e : PySem.Expr} {te : TDE}
end
end Pd
/-! list(d.values()), list(d), max(a dict of texts), int(a bool). -/
namespace Pd
open PySem PySem.Spec PyProof.Rows L2
section
variable {X : Cx} {w : Wd} {e : PySem.Expr} {es : List PySem.Expr} {te : TDE} {t : TDA} {pos p : Pos}
end
end Pd
/-! max(a dict of texts), int(a bool). -/
namespace Pd
open PySem PySem.Spec PyProof.Rows L2
section
variable {X : Cx} {w : Wd} {e : PySem.Expr} {es : List PySem.Expr} {te : TDE} {t : TDA} {pos p : Pos}
end
end Pd
/-! dict(zip(a list of numbers and texts, a tuple)). -/
namespace Pd
open PySem PySem.Spec PySem.Calls PyProof.Rows L2
/-- a new zip of the tuple at l1 and the list at l2 -/
structure ZOkL (z TI TO i1 i2 l1 l2 : Addr) (xs ys : Array Value) (h : Heap) : Prop where
  z : IsZip h z TI TO .none
  ti : IsPair h TI (.ref i1) (.ref i2)
  to : ∃ a b, IsPair h TO a b
  one : h.IsListIter i1 l1 0 ∧ h.IsList l1 xs
  two : h.IsTupleIter i2 l2 0 ∧ h.IsTuple l2 ys
/-! ### zip of a tuple and a list -/
section
variable {prog : Program} {w : World} {A : Around} {E : Value → Shared → Prop} {s : Shared}
end
section
variable {X : Cx} {e f : Expr} {ta : TA} {p p2 pos pos2 : Pos}
end

/-! ### as data -/
section
variable {X : Cx} {w : Wd} {e f : Expr} {t : TDA} {p p2 pos pos2 : Pos}
end
end Pd
/-! text in dict, text not in dict; xs.index(b) and b in xs, xs a list of bools; a is b of bools. -/
namespace Pd
open PySem PySem.Spec PyProof.Rows L2
section
variable {X : Cx} {w : Wd} {o e a b : Expr} {to te ta tb : TDE} {pos apos cpos : Pos}
/-! ### bools -/
theorem DvAll.bools {K : PySem.W.Frag} {g : Gd} {H : Hp} : ∀ {bs : List Bool} {xs : List V}, DvAll K g H xs (bs.map .bl) → xs = bs.map V.bl
  | [], _, h => by cases h; rfl
  | i :: is, _, h => by
    cases h with
    | cons p t =>
      cases p
      rw [DvAll.bools t, List.map_cons]
def dIndexB (to te : TDE) : TDE := fun r Q => to r fun x => ∃ is : List Bool, x = .lst (is.map .bl) ∧ te r fun y => ∃ (i : Bool) (j : Nat), y = .bl i ∧ is[j]? = some i ∧ (∀ m < j, is[m]? ≠ some i) ∧ Q (.int (j : Nat))
theorem ped_indexB (ho : PEd X w o to) (he : PEd X w e te)
    (hbase : attributeBase o "index" X.env (eval o X.env) = eval o X.env := by rfl)
    (hfew : ((backTo cpos (starEach [e] X.env)).all (fun x => !x.1) && (backToKw cpos (keywordEach [] X.env)).all (fun x => x.1.isSome) && decide (([e] : List Expr).length + ([] : List Keyword).length + (if ([] : List Keyword).isEmpty then 0 else 1) < 30)) = true := by rfl)
    (hline : (apos.endLine == cpos.line) = true := by rfl) (hst : starEach [e] X.env = (false, eval e X.env) :: starEach [] X.env := by rfl) (hpl : (backTo cpos (starEach [] X.env)).any (·.1) = false := by rfl) :
    PEd X w (.Call (.Attribute o "index" apos) [e] [] cpos) (dIndexB to te) := by
  refine ⟨weE (pe_bm PySem.F.plainAttrs_list PySem.F.slot_list_index PySem.F.type_list_index mt_index ho.pe (pa_cons he.pe pa_nil hst) hbase hfew hline hst hpl) ?_, fun r Q Q' q h => ho.mo _ _ _ (fun x ⟨is, a, z⟩ => ⟨is, a, he.mo _ _ _ (fun y ⟨i, j, b, c, d, z⟩ => ⟨i, j, b, c, d, q _ z⟩) z⟩) h⟩
  rintro σ H Q ⟨W, own, r, S, h⟩
  refine go1 ho S h fun x v H1 e1 k1 d1 z => ?_
  obtain ⟨is, rfl, z⟩ := z
  cases d1 with
  | @lst a us _ a1 a2 =>
    have ei := a2.bools
    subst ei
    refine ⟨.inl ⟨rfl, _, SqL.of (hid_some a1).2⟩, ?_⟩
    refine go1 he (S.ext e1 k1) z fun y u H2 e2 k2 d2 z => ?_
    obtain ⟨i, j, rfl, hj, hno, z⟩ := z
    cases d2
    have a1' := e2.hid k1.gW _ _ a1
    refine ⟨a, is.map V.bl, .bl i, j, .bl i, rfl, rfl, SqL.of (hid_some a1').2, rfl, ?_, ?_, ?_, fun m z' hm hz => ?_, z (.int (j : Nat)) H2 (e1.trans e2) k2 (.int _)⟩
    · rw [List.all_map, List.all_eq_true]
      exact fun _ _ => rfl
    · rw [List.getElem?_map, hj]; rfl
    · show (i == i) = true
      exact beq_self_eq_true i
    · rw [List.getElem?_map] at hz
      obtain ⟨n, hn, rfl⟩ := Option.map_eq_some_iff.mp hz
      show (n == i) = false
      rw [beq_eq_false_iff_ne]
      intro e
      exact hno m hm (by rw [hn, e])
end
end Pd
/-! x[0][k], x[1][k] = (a, b): x a list of one's own with two dicts, forgotten afterwards. -/
namespace Pd
open PySem PySem.Spec PyProof.Rows L2
section
variable {X : Cx} {w : Wd}
end
end Pd
/-! == and != of any two dicts of numbers; dict(zip(a list, a tuple)) as a new thing. -/
namespace Pd
open PySem PySem.Spec PyProof.Rows L2
theorem KV.len {kvs : List (Key × V)} {vs : List (Key × Value)} (h : KV kvs vs) : kvs.length = vs.length := Paired.length h
section
variable {X : Cx} {w : Wd} {a b : Expr} {ta tb : TDE} {pos : Pos}
end
section
variable {X : Cx} {w : Wd} {e f : Expr} {t : TDA} {p p2 pos pos2 : Pos}
end
end Pd
/-! max(i, j); contexts that let no exception out. -/
namespace Pd
open PySem PySem.Spec PyProof.Rows L2
section
variable {X : Cx} {w : Wd} {e : PySem.Expr} {es : List PySem.Expr} {t : TDA} {pos q : Pos}
def max2D : DB := fun ds Q => ∃ i j : Int, ds = [.int i, .int j] ∧ Q (.int (if j > i then j else i))
theorem ped_max2 (hm : X.mg "max" = none) (args : PAd X w (e :: es) t) (hc : X.calm = true := by rfl) (hg : Gl X "max" := by rfl) (he : starEach (e :: es) X.env = (false, eval e X.env) :: starEach es X.env := by rfl) (hpl : (backTo pos (starEach es X.env)).any (·.1) = false := by rfl) :
    PEd X w (.Call (.Name "max" q) (e :: es) [] pos) (dCall max2D t) := by
  refine ped_callB (call_max2 hc) (fun ds Q Q' q ⟨x, y, a, h⟩ => ⟨x, y, a, q _ h⟩) ?_ hm (by decide +kernel) args hg (by decide) (by decide) he hpl
  rintro g W H vs ds Q k dv ⟨i, j, rfl, h⟩
  obtain ⟨v, u, rfl, d1, d2⟩ := dv.two
  cases d1
  cases d2
  exact ⟨i, j, rfl, h.now k (.int _)⟩
theorem tk_none : TkD X w (fun _ _ => False) := ⟨fun _ _ _ _ => False, takes0, fun _ _ _ _ _ _ _ _ h => h.elim⟩
end
end Pd
/-! A dict is locked for one expression; numbers and texts in the other slots are kept. -/
namespace Pd
open PySem PySem.Spec PyProof.Rows L2
section
variable {X : Cx} {w : Wd} {e : Expr} {t : TDE} {i : Nat}
end
end Pd
/-! sorted(e, key=lambda x: (len(x), x)), e a list of tuples of texts; sorted of a list of one tuple. -/
namespace Pd
open PySem PySem.Spec PyProof.Rows L2

/-- what is asked of a lambda of one parameter that neither keeps nor takes names -/
structure Lam1 (params : Arguments) (scope : Scope) (x : Str) : Prop where
  co : scope.isCoroutine = false
  gen : scope.isGenerator = false
  kind : scope.kind = .function
  own : ∀ y ∈ scope.names, y.2 ≠ .cell ∧ y.2 ≠ .free
  at_x : scope.names.lookup x = some .local
  bind : ∀ (body : Expr) (q : Str) (pm cv ctv v : Value), bindArgs (PySem.W.kla_fn "<lambda>" q params body scope [] pm cv ctv) ⟨[v], []⟩ = pure [(x, v)]
section
variable {prog : Program} {wd : World} {K : PySem.W.Frag} {mg : Str → Option Value} {base : Heap}
end

section
variable {X : Cx} {w : Wd} {e : Expr} {te : TDE}
end
end Pd
/-! sorted of a list that may be of one empty tuple. -/
namespace Pd
open PySem PySem.Spec PyProof.Rows L2
section
variable {X : Cx} {w : Wd} {e : Expr} {es : List Expr} {t : TDA} {p pos : Pos}
end
end Pd
/-! Defs that return a new list, where the tables of codes are told. -/
namespace Pd
open PySem PySem.Spec PyProof.Rows L2
/-- the code of a def, by the def's name -/
structure CodeAt (K : PySem.W.Frag) (mg : Str → Option Value) (x : Str) (cd : Value) : Prop where
  ex : ∃ f o fd, mg x = some (.ref f) ∧ K.lookup f = some o ∧ o.data = .func fd ∧ fd.code = cd
def liFT (K : PySem.W.Frag) (T : List (Addr × Str)) (p : DSpF) : Sp := fun vs H Q _ => ∃ g W ds, OkW K g W H ∧ g.tab = T ∧ DvAll K g (hid W H) vs ds ∧ p ds (NewL K g W H Q)
structure CalldFT (P : Program) (wd : World) (K : PySem.W.Frag) (mg : Str → Option Value) (base : Heap) (T : List (Addr × Str)) (k : Nat) (x : Str) (ps : List Str) (p : DSpF) : Prop where
  ex : ∃ f fd, FnG P wd K mg base CX0 k f fd ps (liFT K T p) ∧ mg x = some (.ref f) ∧ PySem.W.keepIn K (.ref f) = true ∧ Binds K fd ps []
  mp : MoPF p
section
variable {P : Program} {wd : World} {K : PySem.W.Frag} {mg : Str → Option Value} {base : Heap} {T : List (Addr × Str)}
theorem CalldFT.up {j k : Nat} {x : Str} {ps : List Str} {p : DSpF} (c : CalldFT P wd K mg base T j x ps p) (h : j ≤ k) : CalldFT P wd K mg base T k x ps p := by
  obtain ⟨⟨f, fd, F, a, b, d⟩, mp⟩ := c
  exact ⟨⟨f, fd, F.up h, a, b, d⟩, mp⟩
end
section
variable {X : Cx} {w : Wd}
end
end Pd
/-! name = [.. for x in .. for y in ..], name one's own list (it may be walked, too). -/
namespace Pd
open PySem PySem.Spec PyProof.Rows L2
section
variable {X : Cx} {w : Wd} {pos : Pos}
end
end Pd
/-! dict(zip(a tuple, a tuple)). -/
namespace Pd
open PySem PySem.Spec PySem.Calls PyProof.Rows L2
/-- a new zip of two tuples -/
structure ZOkT (z TI TO i1 i2 l1 l2 : Addr) (xs ys : Array Value) (h : Heap) : Prop where
  z : IsZip h z TI TO .none
  ti : IsPair h TI (.ref i1) (.ref i2)
  to : ∃ a b, IsPair h TO a b
  one : h.IsTupleIter i1 l1 0 ∧ h.IsTuple l1 xs
  two : h.IsTupleIter i2 l2 0 ∧ h.IsTuple l2 ys
/-! ### zip of a tuple and a list -/
section
variable {prog : Program} {w : World} {A : Around} {E : Value → Shared → Prop} {s : Shared}
end
section
variable {X : Cx} {e f : Expr} {ta : TA} {p p2 pos pos2 : Pos}
end

/-! ### as data -/
section
variable {X : Cx} {w : Wd} {e f : Expr} {t : TDA} {p p2 pos pos2 : Pos}
end
end Pd
/-! A comprehension as a new list of new values. -/
namespace Pd
open PySem PySem.Spec PyProof.Rows L2
structure GroN (K : PySem.W.Frag) (g : Gd) (W : Addr → Bool) (H1 : Hp) (D : Addr) (H' : Hp) (ad : List Da) : Prop where
  ext : Ext g H1 H'
  bag : BagI K g (hideD W D) H'
  at_ : ∃ av, H' D = some (.lst av) ∧ DvAll K g (newM H1 (hid (hideD W D) H')) av ad
section
variable {K : PySem.W.Frag} {g : Gd} {W : Addr → Bool} {H H' H1 : Hp} {D : Addr} {ad : List Da}
theorem GroN.go (G : GroN K g W H1 D H ad) (gne : ¬ Bd g D) (gW : ∀ a, Bd g a → hideD W D a = true) (e : Ext g H H') (b : BagI K g (hideD W D) H') : GroN K g W H1 D H' ad := by
  obtain ⟨av, h1, h2⟩ := G.at_
  exact ⟨G.ext.trans e, b, av, e D _ gne h1, DvAll.mono (newM_up (fun _ h => h) (e.hid gW)) _ _ h2⟩
theorem GroN.push (G : GroN K g W H1 D H ad) (hD : H1 D = none) (gne : ¬ Bd g D) {v : V} {y : Da} (d : Dv K g (newM H1 (hid (hideD W D) H)) v y) : ∃ av, H D = some (.lst av) ∧ av.length = ad.length ∧ GroN K g W H1 D (upd H D (.lst (av ++ [v]))) (ad ++ [y]) := by
  obtain ⟨av, h1, h2⟩ := G.at_
  refine ⟨av, h1, h2.len, ⟨fun b o nb hb => ?_, fun a xs ha hx => ?_⟩, G.bag.upd gne hideD_at (fun φ z => by rw [h1] at z; cases z), av ++ [v], upd_same, by rw [hidD_upd]; exact h2.app (.cons d .nil)⟩
  · rw [upd_ne (ne_of_none hb hD)]
    exact G.ext b o nb hb
  · have ne : a ≠ D := fun z => gne (.inl (z ▸ ha))
    rw [upd_ne ne]
    exact G.ext.last a xs ha hx
theorem GroN.new (G : GroN K g W H1 D H ad) (hD : H1 D = none) (k : OkW K g W H1) : ∃ xs Hm, Ext g H1 Hm ∧ OkW K g W Hm ∧ Hm D = none ∧ DvAll K g (newM H1 (hid W Hm)) xs ad ∧ H = upd Hm D (.lst xs) := by
  obtain ⟨av, h1, h2⟩ := G.at_
  have gne : ¬ Bd g D := fun z => by
    obtain ⟨o, q⟩ := k.al D (k.gW D z)
    rw [hD] at q; cases q
  have WD : W D = false := by
    cases y : W D with
    | false => rfl
    | true => obtain ⟨o, q⟩ := k.al D y; rw [hD] at q; cases q
  have eq : hid (hideD W D) H = hid W (cutAt D H) := by
    funext b
    unfold hid
    by_cases z : b = D
    · subst z
      rw [hideD_at, if_pos rfl, WD, if_neg Bool.false_ne_true, cutAt_same]
    · rw [hideD_ne z, cutAt_ne z]
  refine ⟨av, cutAt D H, ⟨fun b o nb hb => ?_, fun a xs ha hx => ?_⟩, ⟨(G.bag.cut gne hideD_at (fun φ z => by rw [h1] at z; cases z)).less (fun a h => hideD_le h), k.gW, fun a ha => ?_⟩, cutAt_same, by rw [← eq]; exact h2, ?_⟩
  · rw [cutAt_ne (ne_of_none hb hD)]
    exact G.ext b o nb hb
  · have ne : a ≠ D := fun z => gne (.inl (z ▸ ha))
    obtain ⟨ys, q1, q2⟩ := G.ext.last a xs ha hx
    exact ⟨ys, by rw [cutAt_ne ne]; exact q1, q2⟩
  · have ne : a ≠ D := fun z => by rw [z, WD] at ha; cases ha
    rw [cutAt_ne ne]
    by_cases y : Bd g a
    · exact G.bag.al y
    · obtain ⟨o, q⟩ := k.al a ha
      exact ⟨o, G.ext a o y q⟩
  · funext b
    by_cases z : b = D
    · rw [z, h1, upd_same]
    · rw [upd_ne z, cutAt_ne z]
end
section
variable {K : PySem.W.Frag} {w : Wd}
theorem GroN.sm {g : Gd} {W : Addr → Bool} {H1 H' : Hp} {D : Addr} {ad : List Da} (G : GroN K g W H1 D H' ad) (k : OkW K g W H1) (hD : H1 D = none) : Sm (hid W H1) (hid (hideD W D) H') := fun a o z => by
  obtain ⟨q1, q2⟩ := hid_some z
  have ne : a ≠ D := ne_of_none q2 hD
  rw [hid_no (by rw [hideD_ne ne]; exact q1)]
  exact G.ext a o (fun z => by rw [k.gW a z] at q1; cases q1) q2
end
section
variable {X : Cx} {w : Wd} {pos : Pos}
end
end Pd
namespace Pd
open PySem PySem.Spec PyProof.Rows L2
section
variable {X : Cx} {w : Wd} {e f : Expr} {t : TDA} {p p2 pos pos2 : Pos}
end
/-! ### a def that returns a new list of new values -/
def endR (K : PySem.W.Frag) (w : Wd) (W : Addr → Bool) (H : Hp) (E : Ends) : EnF := { endD K w W H E with rf := NewR K w.g w.W0 w.H0 E.rt }
structure PSsR (X : Cx) (w : Wd) (st : List Stmt) (t : TDF) : Prop where
  ps : PSs X st (fun E σ H => ∃ W own r, Stt X.K w W own r σ H ∧ t (endR X.K w W H E) r)
  mo : ∀ E E' r, LeF E E' → t E r → t E' r
section
variable {X : Cx} {w : Wd} {e : Expr} {st : Stmt} {rest : List Stmt} {pos : Pos} {t : TDS} {u : TDF}
end
end Pd
/-! Defs that return data, where the tables of codes are told (their bodies make lambdas). -/
namespace Pd
open PySem PySem.Spec PyProof.Rows L2
def liPT (K : PySem.W.Frag) (T : List (Addr × Str)) (p : DSp) : Sp := fun vs H Q _ => ∃ g W ds, OkW K g W H ∧ g.tab = T ∧ DvAll K g (hid W H) vs ds ∧ p ds (Aft K g W H Q)
structure CalldT (P : Program) (wd : World) (K : PySem.W.Frag) (mg : Str → Option Value) (base : Heap) (T : List (Addr × Str)) (k : Nat) (x : Str) (ps : List Str) (p : DSp) : Prop where
  ex : ∃ f fd, FnG P wd K mg base CX0 k f fd ps (liPT K T p) ∧ mg x = some (.ref f) ∧ PySem.W.keepIn K (.ref f) = true ∧ Binds K fd ps []
  mp : MoP p
section
variable {P : Program} {wd : World} {K : PySem.W.Frag} {mg : Str → Option Value} {base : Heap} {T : List (Addr × Str)}
theorem CalldT.up {j k : Nat} {x : Str} {ps : List Str} {p : DSp} (c : CalldT P wd K mg base T j x ps p) (h : j ≤ k) : CalldT P wd K mg base T k x ps p := by
  obtain ⟨⟨f, fd, F, a, b, d⟩, mp⟩ := c
  exact ⟨⟨f, fd, F.up h, a, b, d⟩, mp⟩
end
section
variable {X : Cx} {w : Wd}
theorem ped_fT {T : List (Addr × Str)} {x : Str} {p pos : Pos} {k : Nat} {ps : List Str} {sp : DSp} {t : TDA} {e : Expr} {es : List Expr} (hT : w.g.tab = T) (c : CalldT X.prog X.w X.K X.mg X.base T k x ps sp) (room : Room k X.A) (hG : X.A.guards = some []) (args : PAd X w (e :: es) t) (gl : Gl X x := by rfl) (nd : (x == ("__debug__" : Str)) = false := by decide)
    (st : starEach (e :: es) X.env = (false, eval e X.env) :: starEach es X.env := by rfl) (bk : (backTo pos (starEach es X.env)).any (·.1) = false := by rfl) : PEd X w (.Call (.Name x p) (e :: es) [] pos) (dCall sp t) := by
  obtain ⟨⟨f, fd, F, a, b, d⟩, mp⟩ := c
  refine ⟨weE (pe_callG (E := E0) F room hG gl a b d .nil pass0 args.pa nd st bk) ?_, fun r Q Q' q h => args.mo _ _ _ (fun ds z => mp _ _ _ q z) h⟩
  rintro σ H Q ⟨W, own, r, S, h⟩
  refine goA args S h fun xs vs H1 e1 k1 d1 p => ?_
  rw [List.append_nil]
  exact ⟨w.g, W, xs, k1, hT, d1, mp _ _ _ (fun d q => Aft.then q e1) p⟩
end
theorem defT {P : Program} {wd : World} {K : PySem.W.Frag} {mg : Str → Option Value} {base : Heap} {T : List (Addr × Str)} {x : Str} {st : Stmt} {N ps : List Str} {k : Nat} {p : DSp} {cd : Value} (At : DefAt K mg x st ps) (C : CodeAt K mg x cd)
    (S : FnScope N ps (defScope st)) (len : ∀ ds Q, p ds Q → ds.length = ps.length) (mp : MoP p)
    (inside : ∀ (f : Addr) (A : Around) (outer : List Env) (s0 : Shared) (H : Hp) (E : XK) (w : Wd) (ds : List Da) (Q : Da → Prop), Room k (A.deeper (envOfC x (defScope st) s0.heap.objs.size f cd)) → A.guards = some [] → WOk w → w.g.tab = T → p ds Q →
      ∃ t, PSsd (cxOf CX0 P wd K mg base N x (defScope st) f cd A outer s0 H E).nox w (defBody st) t ∧ t { nx := fun _ => Q .non, rt := Q } (startD N ds)) :
    CalldT P wd K mg base T (k + 1) x ps p := by
  obtain ⟨f, fd, F, a, b⟩ := At.ex
  have ecd : fd.code = cd := by
    obtain ⟨f2, o2, fd2, h1, h2, h3, h4⟩ := C.ex
    rw [a] at h1
    cases h1
    obtain ⟨oc, od, kV, doc, pm, an, cdv, ct, osl, rfl, at_f, at_c⟩ := F.ex
    rw [at_f] at h2
    cases h2
    cases h3
    exact h4
  refine ⟨⟨f, fd, FunG.okC F S ?_ ?_, a, F.kp, b⟩, mp⟩
  · rintro vs H Q E ⟨g, W, ds, k1, _, dv, h⟩
    rw [dv.len]
    exact len _ _ h
  · rintro cdv A outer s0 H vs Q E hcd room hG ⟨g, W, ds, k1, hT, dv, h⟩
    have e2 : cdv = cd := hcd.symm.trans ecd
    subst e2
    obtain ⟨t, ht, hq⟩ := inside f A outer s0 H E ⟨H, g, W⟩ ds _ room hG (fun a ha => k1.al a ha) hT h
    refine ⟨_, ht.ps, W, fun _ _ => False, startD N ds, start_stt k1 dv, ht.mo { nx := fun _ => Aft K g W H Q .non, rt := Aft K g W H Q } _ _ ⟨fun r' q W' o' σ' H' g' S' => ?_, fun d q v H' e1 k2 d2 => q v H' e1 k2 d2, fun _ q => q.elim, fun _ q => q.elim⟩ hq⟩
    have z := ret_ok (E := { nx := fun _ H' => Q .non H', rt := Q }) (d := .non) (v := V.non) S' (fun v H1 e1 k2 d2 => q v H1 e1 k2 d2) H' Ext.refl S'.ok .non
    exact z
end Pd
namespace Pd
open PySem PySem.Spec PyProof.Rows L2
section
variable {X : Cx} {w : Wd}
end
end Pd
/-! in, of a number in a tuple of numbers. -/
namespace Pd
open PySem PySem.Spec PyProof.Rows L2
section
variable {X : Cx} {w : Wd} {a b : Expr} {ta tb : TDE} {pos : Pos}
end
end Pd
namespace K23
open PySem PySem.Spec PyProof.Rows L2 Pd
def topS (i : Nat) : Stmt := PySem.Challenge.pw_asmuchas_k23_divisors_of_rows.main.body.getD i (.Pass ⟨0, 0, 0, 0⟩)
abbrev s_bag : Stmt := topS 19
abbrev s_take : Stmt := topS 20
abbrev N_take : List Str := ["_law_bag_here", "_law_many", "_law_cell", "_law_mixed", "_law_value", "_law_begin", "_law_second"]
theorem sc_take : FnScope N_take ["_law_bag_here", "_law_many"] (defScope s_take) := ⟨rfl, rfl, rfl, by decide +kernel, rfl, by decide +kernel, by decide +kernel⟩
abbrev sp_taken : Stmt := topS 5
abbrev Np_taken : List Str := ["one", "other", "part", "less"]
theorem scp_taken : FnScope Np_taken ["one", "other"] (defScope sp_taken) := ⟨rfl, rfl, rfl, by decide +kernel, rfl, by decide +kernel, by decide +kernel⟩

abbrev sp_times : Stmt := topS 6
abbrev Np_times : List Str := ["row", "number", "part"]
theorem scp_times : FnScope Np_times ["row", "number"] (defScope sp_times) := ⟨rfl, rfl, rfl, by decide +kernel, rfl, by decide +kernel, by decide +kernel⟩

abbrev sp_first_place : Stmt := topS 8
abbrev Np_first_place : List Str := ["row", "place"]
theorem scp_first_place : FnScope Np_first_place ["row"] (defScope sp_first_place) := ⟨rfl, rfl, rfl, by decide +kernel, rfl, by decide +kernel, by decide +kernel⟩

abbrev sp_less : Stmt := topS 9
abbrev Np_less : List Str := ["row", "step", "place", "number"]
theorem scp_less : FnScope Np_less ["row", "step", "place"] (defScope sp_less) := ⟨rfl, rfl, rfl, by decide +kernel, rfl, by decide +kernel, by decide +kernel⟩

abbrev sp_joined : Stmt := topS 10
abbrev Np_joined : List Str := ["step", "row", "place"]
theorem scp_joined : FnScope Np_joined ["step", "row", "place"] (defScope sp_joined) := ⟨rfl, rfl, rfl, by decide +kernel, rfl, by decide +kernel, by decide +kernel⟩

abbrev sp_lowered : Stmt := topS 11
abbrev Np_lowered : List Str := ["some", "made", "row", "place", "step", "above"]
theorem scp_lowered : FnScope Np_lowered ["some"] (defScope sp_lowered) := ⟨rfl, rfl, rfl, by decide +kernel, rfl, by decide +kernel, by decide +kernel⟩

abbrev sp_with_row : Stmt := topS 12
abbrev Np_with_row : List Str := ["made", "row", "some", "left", "step", "place", "upper"]
theorem scp_with_row : FnScope Np_with_row ["made", "row"] (defScope sp_with_row) := ⟨rfl, rfl, rfl, by decide +kernel, rfl, by decide +kernel, by decide +kernel⟩

abbrev sp_steps : Stmt := topS 13
abbrev Np_steps : List Str := ["rows", "made", "row"]
theorem scp_steps : FnScope Np_steps ["rows"] (defScope sp_steps) := ⟨rfl, rfl, rfl, by decide +kernel, rfl, by decide +kernel, by decide +kernel⟩

abbrev sp_cleared : Stmt := topS 15
abbrev Np_cleared : List Str := ["rows", "row", "number", "left", "step", "place", "factor"]
theorem scp_cleared : FnScope Np_cleared ["rows", "row"] (defScope sp_cleared) := ⟨rfl, rfl, rfl, by decide +kernel, rfl, by decide +kernel, by decide +kernel⟩

abbrev sp_is_held : Stmt := topS 16
abbrev Np_is_held : List Str := ["rows", "row", "_", "left"]
theorem scp_is_held : FnScope Np_is_held ["rows", "row"] (defScope sp_is_held) := ⟨rfl, rfl, rfl, by decide +kernel, rfl, by decide +kernel, by decide +kernel⟩

abbrev sp_divisor : Stmt := topS 17
abbrev Np_divisor : List Str := ["rows", "row", "number", "left"]
theorem scp_divisor : FnScope Np_divisor ["rows", "row"] (defScope sp_divisor) := ⟨rfl, rfl, rfl, by decide +kernel, rfl, by decide +kernel, by decide +kernel⟩

abbrev s_alike : Stmt := topS 21
abbrev N_alike : List Str := ["_law_found", "_law_due"]
theorem sc_alike : FnScope N_alike ["_law_found", "_law_due"] (defScope s_alike) := ⟨rfl, rfl, rfl, by decide +kernel, rfl, by decide +kernel, by decide +kernel⟩

abbrev s_one : Stmt := topS 22
abbrev N_one : List Str := ["_law_bag_here", "_law_things"]
theorem sc_one : FnScope N_one ["_law_bag_here", "_law_things"] (defScope s_one) := ⟨rfl, rfl, rfl, by decide +kernel, rfl, by decide +kernel, by decide +kernel⟩

abbrev s_mixture : Stmt := topS 23
abbrev N_mixture : List Str := ["_law_rows", "_law_numbers", "_law_many", "_law_found", "_law_k", "_law_at"]
theorem sc_mixture : FnScope N_mixture ["_law_rows", "_law_numbers", "_law_many"] (defScope s_mixture) := ⟨rfl, rfl, rfl, by decide +kernel, rfl, by decide +kernel, by decide +kernel⟩

abbrev s_less : Stmt := topS 24
abbrev N_less : List Str := ["_law_row", "_law_mine", "_law_other", "_law_its", "_law_k"]
theorem sc_less : FnScope N_less ["_law_row", "_law_mine", "_law_other", "_law_its"] (defScope s_less) := ⟨rfl, rfl, rfl, by decide +kernel, rfl, by decide +kernel, by decide +kernel⟩

abbrev s_cut : Stmt := topS 25
abbrev N_cut : List Str := ["_law_rows", "_law_found", "_law_rest", "_law_at", "_law_some", "_law_lead", "_law_later", "_law_row"]
theorem sc_cut : FnScope N_cut ["_law_rows"] (defScope s_cut) := ⟨rfl, rfl, rfl, by decide +kernel, rfl, by decide +kernel, by decide +kernel⟩

abbrev s_rank : Stmt := topS 26
abbrev N_rank : List Str := ["_law_rows"]
theorem sc_rank : FnScope N_rank ["_law_rows"] (defScope s_rank) := ⟨rfl, rfl, rfl, by decide +kernel, rfl, by decide +kernel, by decide +kernel⟩

abbrev s_is_held : Stmt := topS 27
abbrev N_is_held : List Str := ["_law_rows", "_law_row"]
theorem sc_is_held : FnScope N_is_held ["_law_rows", "_law_row"] (defScope s_is_held) := ⟨rfl, rfl, rfl, by decide +kernel, rfl, by decide +kernel, by decide +kernel⟩

abbrev s_steps : Stmt := topS 28
abbrev N_steps : List Str := ["_law_rows", "_law_found", "_law_rest", "_law_at", "_law_some", "_law_sizes", "_law_spot", "_law_lead", "_law_others", "_law_row", "_law_later"]
theorem sc_steps : FnScope N_steps ["_law_rows"] (defScope s_steps) := ⟨rfl, rfl, rfl, by decide +kernel, rfl, by decide +kernel, by decide +kernel⟩

abbrev s_is_made : Stmt := topS 29
abbrev N_is_made : List Str := ["_law_rows", "_law_row", "_law_rest", "_law_lead", "_law_at", "_law_k", "_law_part"]
theorem sc_is_made : FnScope N_is_made ["_law_rows", "_law_row"] (defScope s_is_made) := ⟨rfl, rfl, rfl, by decide +kernel, rfl, by decide +kernel, by decide +kernel⟩

abbrev s_shared : Stmt := topS 30
abbrev N_shared : List Str := ["_law_numbers", "_law_found", "_law_number", "_law_one_here", "_law_other", "_law_turn"]
theorem sc_shared : FnScope N_shared ["_law_numbers"] (defScope s_shared) := ⟨rfl, rfl, rfl, by decide +kernel, rfl, by decide +kernel, by decide +kernel⟩

abbrev s_some_rows : Stmt := topS 31
abbrev N_some_rows : List Str := ["_law_bag_here", "_law_many", "_law_top", "_law_found", "_law_size", "_law_k", "_law_way", "_law_row", "_law_at", "_law_one_here", "_law_part"]
theorem sc_some_rows : FnScope N_some_rows ["_law_bag_here", "_law_many", "_law_top"] (defScope s_some_rows) := ⟨rfl, rfl, rfl, by decide +kernel, rfl, by decide +kernel, by decide +kernel⟩

abbrev s_raised : Stmt := topS 32
abbrev s_primes : Stmt := topS 33
abbrev N_primes : List Str := ["_law_number", "_law_found", "_law_rest", "_law_prime", "_law_turn"]
theorem sc_primes : FnScope N_primes ["_law_number"] (defScope s_primes) := ⟨rfl, rfl, rfl, by decide +kernel, rfl, by decide +kernel, by decide +kernel⟩

abbrev s_right : Stmt := topS 34
abbrev N_right : List Str := ["_law_rows", "_law_row", "_law_held", "_law_found", "_law_number", "_law_prime", "_law_part"]
theorem sc_right : FnScope N_right ["_law_rows", "_law_row"] (defScope s_right) := ⟨rfl, rfl, rfl, by decide +kernel, rfl, by decide +kernel, by decide +kernel⟩

abbrev se_NotHeld : Stmt := inClass (topS 3) 0
theorem sce_NotHeld : FnScope ["self", "row"] ["self", "row"] (defScope se_NotHeld) := ⟨rfl, rfl, rfl, by decide +kernel, rfl, by decide +kernel, by decide +kernel⟩
/-- the error classes -/
structure Xs (K : PySem.W.Frag) (mg : Str → Option Value) (cN cM : Addr) : Prop where
  eN : ErrAt K mg "NotHeld" "row" cN
  gM : mg "MuchError" = some (.ref cM)
  xm : PySem.W.exmOne K (.ref cN) (.ref cM) = some true
  xo : ExcOk K cN
  kN : PySem.W.kitOne K (.ref cN) (.ref cN) = some true
structure Txt (K : PySem.W.Frag) (mg : Str → Option Value) : Prop where
  d_take : DefAt K mg "_law_take" s_take ["_law_bag_here", "_law_many"]
  dp_taken : DefAt K mg "taken" sp_taken ["one", "other"]
  dp_times : DefAt K mg "times" sp_times ["row", "number"]
  dp_first_place : DefAt K mg "first_place" sp_first_place ["row"]
  dp_less : DefAt K mg "_less" sp_less ["row", "step", "place"]
  dp_joined : DefAt K mg "_joined" sp_joined ["step", "row", "place"]
  dp_lowered : DefAt K mg "_lowered" sp_lowered ["some"]
  dp_with_row : DefAt K mg "_with_row" sp_with_row ["made", "row"]
  dp_steps : DefAt K mg "steps" sp_steps ["rows"]
  dp_cleared : DefAt K mg "_cleared" sp_cleared ["rows", "row"]
  dp_is_held : DefAt K mg "is_held" sp_is_held ["rows", "row"]
  dp_divisor : DefAt K mg "divisor" sp_divisor ["rows", "row"]
  d_alike : DefAt K mg "_law_alike" s_alike ["_law_found", "_law_due"]
  d_one : DefAt K mg "_law_one" s_one ["_law_bag_here", "_law_things"]
  d_mixture : DefAt K mg "_law_mixture" s_mixture ["_law_rows", "_law_numbers", "_law_many"]
  d_less : DefAt K mg "_law_less" s_less ["_law_row", "_law_mine", "_law_other", "_law_its"]
  d_cut : DefAt K mg "_law_cut" s_cut ["_law_rows"]
  d_rank : DefAt K mg "_law_rank" s_rank ["_law_rows"]
  d_is_held : DefAt K mg "_law_is_held" s_is_held ["_law_rows", "_law_row"]
  d_steps : DefAt K mg "_law_steps" s_steps ["_law_rows"]
  d_is_made : DefAt K mg "_law_is_made" s_is_made ["_law_rows", "_law_row"]
  d_shared : DefAt K mg "_law_shared" s_shared ["_law_numbers"]
  d_some_rows : DefAt K mg "_law_some_rows" s_some_rows ["_law_bag_here", "_law_many", "_law_top"]
  d_raised : DefAt K mg "_law_raised" s_raised ["_law_act"]
  d_primes : DefAt K mg "_law_primes" s_primes ["_law_number"]
  d_right : DefAt K mg "_law_right" s_right ["_law_rows", "_law_row"]

  m_ValueError : mg "ValueError" = none
  m_abs : mg "abs" = none
  m_any : mg "any" = none
  m_bool : mg "bool" = none
  m_int : mg "int" = none
  m_isinstance : mg "isinstance" = none
  m_len : mg "len" = none
  m_list : mg "list" = none
  m_max : mg "max" = none
  m_min : mg "min" = none
  m_range : mg "range" = none
  m_repr : mg "repr" = none
  m_tuple : mg "tuple" = none
  m_zip : mg "zip" = none
  m_gcd : mg "gcd" = some (.builtin "math.gcd")
  xs : ∃ cN cM, Xs K mg cN cM
section
variable {P : Program} {wd : World} {K : PySem.W.Frag} {mg : Str → Option Value} {base : Heap}
theorem at0 {a b c d : V} : atI [a, b, c, d] 0 = some a := atI_nat (j := 0) rfl
theorem at1 {a b c d : V} : atI [a, b, c, d] 1 = some b := atI_nat (j := 1) rfl
theorem at2 {a b c d : V} : atI [a, b, c, d] 2 = some c := atI_nat (j := 2) rfl
theorem at3 {a b c d : V} : atI [a, b, c, d] 3 = some d := atI_nat (j := 3) rfl
theorem seq_via {t u : TS} {D : Ends} {σ : L2.St} {H : Hp} (I : L2.St → Hp → Prop) (h2 : ∀ σ' H', I σ' H' → u D σ' H') (h1 : (∀ σ' H', I σ' H' → u D σ' H') → t { D with nx := u D } σ H) : tSeq t u D σ H := h1 h2
theorem seq_c {v : V} {i : Nat} {u : TS} {D : Ends} {σ : L2.St} {H : Hp} (h : u D (σ.set i (some v)) H) : tSeq (tAsg (tC v) (gName i)) u D σ H := h
/-- in a draw: the slots and the heap -/
structure TkI (K : PySem.W.Frag) (H0 : Hp) (g c : Addr) (cs : List Int) (n : Int) (σ : L2.St) (H : Hp) : Prop where
  ex : ∃ x y z u2 u3 u4 u5 u6, σ = [some (.ref g), some (.int n), u2, u3, u4, u5, u6] ∧ BagT K H0 g c cs H x y z
theorem ok_take (T : Txt K mg) : Calld P wd K mg base 1 "_law_take" ["_law_bag_here", "_law_many"] pTake := by
  obtain ⟨f, fd, F, at_f, bd⟩ := T.d_take.ex
  refine ⟨⟨f, fd, FunG.ok F sc_take ?_ ?_, at_f, F.kp, bd⟩, pTake_mo⟩
  · rintro vs H Q E ⟨g, W, ds, k, dv, n, rfl, _⟩
    exact dv.len
  · rintro cdv A outer s0 H vs Q E hr hG ⟨gg, W, ds, k, dv, n, rfl, hn, hn9, h⟩
    obtain ⟨v1, v2, rfl, d1, d2⟩ := dv.two
    cases d2
    cases d1 with
    | @bag g eg =>
    obtain ⟨x0, y0, z0, c, cs, b1, b2⟩ := k.bag.bag g eg
    obtain ⟨b3, b4⟩ := hid_some b2
    have neg : c ≠ g := fun z => by rw [z, k.gW g (.inl eg)] at b3; cases b3
    have B0 : BagT K H g c cs H x0 y0 z0 := ⟨fun _ _ _ h => h, b1, b4, neg⟩
    -- what is told at the end
    have fin : ∀ (r : Int) (H' : Hp) (x y : Int) (z : Nat), 0 ≤ r → r < n → BagT K H g c cs H' x y z → Q (.int r) H' := by
      intro r H' x y z r0 r1 B
      have e : Ext gg H H' := ⟨fun b o nb hb => B.keep b o (fun z => nb (.inl (by rw [z]; exact eg))) hb, fun a xs ha hx => by
        have : a = g := Option.some.inj (ha.symm.trans eg)
        subst this
        cases b1.symm.trans hx
        exact ⟨_, B.at_g, rfl⟩⟩
      refine h r r0 r1 _ H' e ⟨⟨fun a ha => ?_, tabs_at k.bag.tabs (fun p hp ps q => B.keep p.1 _ (fun z => by rw [z, b1] at q; cases q) q) (fun c2 n2 q => B.keep c2 _ (fun z => by rw [z, b1] at q; cases q) q)⟩, k.gW, fun a ha => ?_⟩ (.int r)
      · have : a = g := Option.some.inj (ha.symm.trans eg)
        subst this
        exact ⟨x, y, z, c, cs, B.at_g, by rw [hid_no b3]; exact B.at_c⟩
      · by_cases z' : a = g
        · exact ⟨_, by rw [z']; exact B.at_g⟩
        · obtain ⟨o, q⟩ := k.al a ha
          exact ⟨o, B.keep a o z' q⟩
    refine ⟨_, pss_cons (ps_if (pt_cmp (pc_eqI (pe_ix ix_list (pv 0) pe_int (fun _ _ => rfl)) pe_int))
        (pss_cons (ps_set (i := 2) sc_take.nd rfl (.inl rfl) pe_int)
        (pss_cons (ps_if (pt_cmp (pc_lt (pe_ix ix_list (pv 0) pe_int (fun _ _ => rfl)) (pe_callB call_len_seq (by rfl) T.m_len PySem.boot_len (pa_cons (pe_ix ix_list (pv 0) pe_int (fun _ _ => rfl)) pa_nil))))
            (pss_one (ps_set (i := 2) sc_take.nd rfl (.inl rfl) (pe_ix ix_list (pe_ix ix_list (pv 0) pe_int (fun _ _ => rfl)) (pe_ix ix_list (pv 0) pe_int (fun _ _ => rfl)) (fun _ _ => rfl)))) pss_nil)
        (pss_cons (ps_augS (pv 0) pe_int pget_list pe_int ip_add set_list)
        (pss_cons (ps_if (pt_cmp (pc_ge (pv 2) pe_int)) (pss_one (ps_asg (pv 2) (pg_sub (pv 0) pe_int set_list))) pss_nil)
        (pss_cons (ps_set (i := 3) sc_take.nd rfl (.inl rfl) (pe_op op_add (pe_op op_add (pe_op op_mul (pe_ix ix_list (pv 0) pe_int (fun _ _ => rfl)) pe_int)
            (pe_op op_mod (pe_callTy call_int1 (by rfl) T.m_int (by decide +kernel) (pa_cons (pv 2) pa_nil)) pe_int)) (pe_op op_mul pe_int (pe_ix ix_list (pv 0) pe_int (fun _ _ => rfl)))))
        (pss_one (ps_asg (pe_op op_mod (pe_callTy call_int1 (by rfl) T.m_int (by decide +kernel) (pa_cons (pv 3) pa_nil)) pe_int) (pg_sub (pv 0) pe_int set_list)))))))) pss_nil)
      (pss_cons (ps_if (pt_cmp (pc_gt (pe_ix ix_list (pv 0) pe_int (fun _ _ => rfl)) pe_int))
        (pss_cons (ps_set (i := 4) sc_take.nd rfl (.inl rfl) (pe_op op_mod (pe_callTy call_int1 (by rfl) T.m_int (by decide +kernel) (pa_cons (pe_ix ix_list (pv 0) pe_int (fun _ _ => rfl)) pa_nil)) (pv 1)))
        (pss_cons (ps_asg (pe_op op_fdivW (pe_ix ix_list (pv 0) pe_int (fun _ _ => rfl)) (pv 1)) (pg_sub (pv 0) pe_int set_list))
        (pss_one (ps_ret (pv 4))))) pss_nil)
      (pss_cons (ps_set (i := 5) sc_take.nd rfl (.inl rfl) (pe_op op_mod (pe_callTy call_int1 (by rfl) T.m_int (by decide +kernel) (pa_cons (pe_op op_mul (pe_op op_add (pe_ix ix_list (pv 0) pe_int (fun _ _ => rfl)) pe_int) pe_int) pa_nil)) pe_int))
      (pss_cons (ps_set (i := 6) sc_take.nd rfl (.inl rfl) (pe_op op_mod (pe_callTy call_int1 (by rfl) T.m_int (by decide +kernel) (pa_cons (pe_op op_mul (pe_op op_mod (pe_callTy call_int1 (by rfl) T.m_int (by decide +kernel) (pa_cons (pe_op op_mul (pv 5) (pv 5)) pa_nil)) pe_int) pe_int) pa_nil)) pe_int))
      (pss_cons (ps_if (pt_cmp (pc_gt (pv 1) pe_int)) (pss_one (ps_ret (pe_op op_mod (pe_callTy call_int1 (by rfl) T.m_int (by decide +kernel) (pa_cons (pe_op op_add (pe_op op_mul (pv 6) pe_int) (pv 5)) pa_nil)) (pv 1)))) pss_nil)
      (pss_one (ps_ret (pe_op op_mod (pe_callTy call_int1 (by rfl) T.m_int (by decide +kernel) (pa_cons (pe_op op_fdiv (pv 6) pe_int) pa_nil)) (pv 1)))))))), ?_⟩
    refine seq_via (fun σ' H' => TkI K H g c cs n σ' H') (fun σ' H' I => ?_) (fun rest => ?_)
    · obtain ⟨x, y, z, u2, u3, u4, u5, u6, rfl, B⟩ := I.ex
      -- if bag[0] > 0
      refine ⟨.ref g, rfl, g, _, 0, _, rfl, rfl, SqL.of B.at_g, at0, x, 0, rfl, rfl, _, rfl, ite2 (fun hx => ?_) (fun hx => ?_)⟩
      · -- value, the bag's first place, return
        refine ⟨.ref g, rfl, g, _, 0, _, rfl, rfl, SqL.of B.at_g, at0, .inl ⟨x, rfl, .int n, rfl, x, n, rfl, rfl, hn, ?_⟩⟩
        refine ⟨.ref g, rfl, g, _, 0, _, rfl, rfl, SqL.of B.at_g, at0, .int n, rfl, x, n, rfl, rfl, ⟨hn, hn9⟩, ?_⟩
        refine ⟨.ref g, rfl, g, _, 0, 0, rfl, rfl, B.at_g, ix4 (n := 4) (k := 0) (j := 0) rfl (by decide), ?_⟩
        refine ⟨.int (x % n), rfl, ?_⟩
        have m := mod_lt (i := x) hn
        exact fin _ _ _ _ _ m.1 m.2 B.put
      · -- begin, second
        refine ⟨.ref g, rfl, g, _, 1, _, rfl, rfl, SqL.of B.at_g, at1, y, 1, rfl, rfl, y + 1, 39373, rfl, rfl, mul_ok (by decide) (by decide), .inl ⟨_, rfl, _, 1000000007, rfl, rfl, (by decide : (0 : Int) < 1000000007), ?_⟩⟩
        have m1 := mod_lt (i := (y + 1) * 39373) (n := 1000000007) (by decide)
        refine ⟨_, rfl, _, rfl, (y + 1) * 39373 % 1000000007, (y + 1) * 39373 % 1000000007, rfl, rfl, mul_ok m1.1 (by omega), .inl ⟨_, rfl, _, 998244353, rfl, rfl, (by decide : (0 : Int) < 998244353), ?_⟩⟩
        refine ⟨_, 30011, rfl, rfl, mul_ok (by decide) (by decide), .inl ⟨_, rfl, _, 998244353, rfl, rfl, (by decide : (0 : Int) < 998244353), ?_⟩⟩
        refine ⟨.int n, rfl, n, 1000000, rfl, rfl, _, rfl, ite2 (fun hx => ?_) (fun hx => ?_)⟩
        · refine ⟨_, rfl, _, 1000000007, rfl, rfl, mul_ok (by decide) (by decide), _, rfl, _, _, rfl, rfl, .inl ⟨_, rfl, .int n, rfl, _, n, rfl, rfl, hn, ?_⟩⟩
          exact fin _ _ _ _ _ (mod_lt hn).1 (mod_lt hn).2 B
        · refine ⟨_, rfl, _, 7, rfl, rfl, ⟨by decide, by decide⟩, .inl ⟨_, rfl, .int n, rfl, _, n, rfl, rfl, hn, ?_⟩⟩
          exact fin _ _ _ _ _ (mod_lt hn).1 (mod_lt hn).2 B
    · refine ⟨.ref g, rfl, g, _, 0, _, rfl, rfl, SqL.of B0.at_g, at0, x0, 0, rfl, rfl, _, rfl, ite2 (fun hx => ?_) (fun hx => ?_)⟩
      · -- a new cell
        refine seq_c ?_
        refine seq_via (fun σ' H' => ∃ cell : Int, σ' = [some (.ref g), some (.int n), some (.int cell), none, none, none, none] ∧ H' = H) (fun σ' H' I => ?_) (fun rest1 => ?_)
        · obtain ⟨cell, rfl, rfl⟩ := I
          -- bag[2] += 1
          refine ⟨.ref g, rfl, g, _, 2, _, rfl, rfl, SqL.of B0.at_g, at2, (z0 : Int), 1, rfl, rfl, ?_⟩
          refine ⟨g, _, 2, 2, rfl, rfl, B0.at_g, ix4 (n := 4) (k := 2) (j := 2) rfl (by decide), ?_⟩
          have B1 : BagT K H' g c cs (upd H' g (bagL x0 y0 (z0 + 1) c)) x0 y0 (z0 + 1) := B0.put
          dsimp only
          refine seq_via (fun σ'' H'' => ∃ x1 : Int, σ'' = [some (.ref g), some (.int n), some (.int cell), none, none, none, none] ∧ BagT K H' g c cs H'' x1 y0 (z0 + 1)) (fun σ'' H'' I => ?_) (fun rest2 => ?_)
          · obtain ⟨x1, rfl, B2⟩ := I
            refine ⟨.ref g, rfl, g, _, 1, _, rfl, rfl, SqL.of B2.at_g, at1, y0, 48271, rfl, rfl, mul_ok (by decide) (by decide), .int cell, rfl, .inl ⟨cell, rfl, cell, 2147483647, rfl, rfl, (by decide : (0 : Int) < 2147483647), ?_⟩⟩
            refine ⟨_, _, rfl, rfl, .ref g, rfl, g, _, 2, _, rfl, rfl, SqL.of B2.at_g, at2, 7919, _, rfl, rfl, .inl ⟨by decide, by decide⟩, _, _, rfl, rfl, ?_⟩
            refine ⟨_, rfl, .inl ⟨_, rfl, _, 2147483647, rfl, rfl, (by decide : (0 : Int) < 2147483647), ?_⟩⟩
            refine ⟨.ref g, rfl, g, _, 1, 1, rfl, rfl, B2.at_g, ix4 (n := 4) (k := 1) (j := 1) rfl (by decide), ?_⟩
            exact rest _ _ ⟨⟨x1, _, z0 + 1, _, _, _, _, _, rfl, B2.put⟩⟩
          · refine ⟨.int cell, rfl, cell, 1000000000000000000, rfl, rfl, _, rfl, ite2 (fun hx => ?_) (fun hx => ?_)⟩
            · refine ⟨.int cell, rfl, .ref g, rfl, g, _, 0, 0, rfl, rfl, B1.at_g, ix4 (n := 4) (k := 0) (j := 0) rfl (by decide), ?_⟩
              exact rest2 _ _ ⟨cell, rfl, B1.put⟩
            · exact rest2 _ _ ⟨x0, rfl, B1⟩
        · -- if bag[2] < len(bag[3])
          refine ⟨.ref g, rfl, g, _, 2, _, rfl, rfl, SqL.of B0.at_g, at2, .ref g, rfl, g, _, 3, _, rfl, rfl, SqL.of B0.at_g, at3, c, _, rfl, .inl (SqL.of b4), (z0 : Int), _, rfl, rfl, _, rfl, ite2 (fun hx => ?_) (fun hx => ?_)⟩
          · have hl : z0 < cs.length := by
              have q := of_decide_eq_true hx
              rw [List.length_map] at q
              omega
            have hc : (cs.map V.int)[z0]? = some (.int cs[z0]) := by rw [List.getElem?_map, List.getElem?_eq_getElem hl]; rfl
            refine ⟨.ref g, rfl, g, _, 3, _, rfl, rfl, SqL.of B0.at_g, at3, .ref g, rfl, g, _, 2, _, rfl, rfl, SqL.of B0.at_g, at2, c, _, _, _, rfl, rfl, SqL.of b4, atI_nat hc, ?_⟩
            exact rest1 _ _ ⟨_, rfl, rfl⟩
          · exact rest1 _ _ ⟨0, rfl, rfl⟩
      · exact rest _ _ ⟨⟨x0, y0, z0, _, _, _, _, _, rfl, B0⟩⟩
end
end K23
namespace K23
open PySem PySem.Spec PyProof.Rows L2 Pd El Rw
section
variable {P : Program} {wd : World} {K : PySem.W.Frag} {mg : Str → Option Value} {base : Heap}
theorem okp_taken (T : Txt K mg) : Calld P wd K mg base 1 "taken" ["one", "other"] pTaken := by
  refine defC T.dp_taken scp_taken ?_ pTaken_mo ?_
  · rintro ds Q ⟨x, y, rfl, _⟩
    rfl
  · rintro f cdv A outer s0 H E w ds Q hr hG ⟨x, y, rfl, hx, hy, q⟩
    refine ⟨_, (psd_one (psd_ret (ped_tupF T.m_tuple (pad_cons (ped_lc (own := [("part", 2), ("less", 3)]) scp_taken.nd (pid_zip T.m_zip (ped_var 0) (ped_var 1)) (blkOk_by (own := [("part", 2), ("less", 3)]) (N := Np_taken) (sc := defScope sp_taken) (by decide +kernel)) (gd_tup2 2 3) (gTup_mo (gCons_mo (gName_mo 2) (gCons_mo (gName_mo 3) gNil_mo))) (by decide) (fun _ _ _ _ _ => (pg_tup rfl (pgs_cons (pg_name (i := 2) scp_taken.nd rfl (Or.inl rfl)) (pgs_cons (pg_name (i := 3) scp_taken.nd rfl (Or.inl rfl)) pgs_nil)))) (fun _ _ _ _ _ => ptsd_nil) (fun _ _ _ _ _ => (ped_sub (ped_var 2) (ped_var 3))) s0) pad_nil)))), ?_⟩
    refine ⟨_, rfl, _, rfl, .inr ⟨x.map .int, y.map .int, rfl, rfl, ?_⟩⟩
    refine lcD_ix _ ((List.zipWith (· - ·) x y).map .int) [] (by simp [zipD]) (by rw [zipD_len]; simp only [List.length_map, List.length_nil]; omega) (fun k h1 h2 R hR => ?_) ⟨_, rfl, .inl ⟨_, rfl, q⟩⟩
    simp only [List.getElem_map, List.getElem_zipWith, zipD] at hR ⊢
    exact ⟨_, _, rfl, _, rfl, _, rfl, True.intro, hR⟩
theorem okp_times (T : Txt K mg) : Calld P wd K mg base 1 "times" ["row", "number"] pTimes := by
  refine defC T.dp_times scp_times ?_ pTimes_mo ?_
  · rintro ds Q ⟨x, n, rfl, _⟩
    rfl
  · rintro f cdv A outer s0 H E w ds Q hr hG ⟨x, n, rfl, hx, hn, q⟩
    refine ⟨_, (psd_one (psd_ret (ped_tupF T.m_tuple (pad_cons (ped_lc (own := [("part", 2)]) scp_times.nd (pid_tup (ped_var 0)) (blkOk_by (own := [("part", 2)]) (N := Np_times) (sc := defScope sp_times) (by decide +kernel)) (gd_name 2) (gName_mo 2) (by decide) (fun _ _ _ _ _ => (pg_name (i := 2) scp_times.nd rfl (Or.inl rfl))) (fun _ _ _ _ _ => ptsd_nil) (fun _ _ _ _ _ => (ped_mul (ped_var 2) (ped_var 1))) s0) pad_nil)))), ?_⟩
    refine ⟨_, rfl, _, rfl, ?_⟩
    refine lcD_ix _ ((x.map (· * n)).map .int) [] (by simp) (by simp only [List.length_map, List.length_nil]; omega) (fun k h1 h2 R hR => ?_) ⟨_, rfl, .inl ⟨_, rfl, q⟩⟩
    simp only [List.getElem_map] at hR ⊢
    exact ⟨_, rfl, _, rfl, hn _ (List.getElem_mem _), hR⟩
theorem okp_first_place (T : Txt K mg) : Calld P wd K mg base 1 "first_place" ["row"] pFirst := by
  refine defC T.dp_first_place scp_first_place ?_ pFirst_mo ?_
  · rintro ds Q ⟨x, rfl, _⟩
    rfl
  · rintro f cdv A outer s0 H E w ds Q hr hG ⟨x, rfl, hx, q⟩
    refine ⟨_, (psd_cons (psd_set (i := 1) ped_int scp_first_place.nd)
    (psd_cons (psd_while (PWd.pt (pwd_and (ptd_lt (ped_var 1) (ped_len T.m_len (pad_cons (ped_var 0) pad_nil))) (pwd_and1 (ptd_eq hr (ped_at (fun _ _ => rfl) (ped_var 0) (ped_var 1)) ped_int)))) (psd_one (psd_augAdd (i := 1) ped_int scp_first_place.nd)))
    (psd_one (psd_ret (ped_var 1))))), ?_⟩
    refine ⟨fun n r => ∃ k : Nat, r = [.dat (rwD x), .dat (.int (k : Nat))] ∧ k ≤ x.length ∧ n = x.length - k ∧ ∀ i < k, co x i = 0, ⟨_, 0, rfl, Nat.zero_le _, rfl, fun i h => absurd h (Nat.not_lt_zero _)⟩, ?_⟩
    rintro n r ⟨k, rfl, hk, rfl, hz⟩
    have fin : (¬ (k < x.length ∧ co x k = 0)) → Q (.int (k : Nat)) := fun h => by
      have e := fpL_is hk hz h
      rw [← e]; exact q
    refine ⟨_, rfl, _, rfl, _, rfl, .inl ⟨_, rfl, ?_⟩⟩
    refine ⟨_, rfl, ite2 (fun h => ?_) (fun h => ?_)⟩
    · have hk2 : k < x.length := by
        have := of_decide_eq_true h
        rw [List.length_map] at this
        omega
      refine ⟨_, rfl, _, rfl, .int (co x k), row_at hk2, shp_int _, shp_int _, _, rfl, ite2 (fun h0 => ?_) (fun h0 => ?_)⟩
      · rw [if_neg Bool.false_ne_true, eqd_int, beq_iff_eq] at h0
        intro nx hnx
        refine ⟨_, rfl, True.intro, hnx _ ⟨x.length - (k + 1), by omega, k + 1, ?_, hk2, rfl, fpL_next hk2 hz h0⟩⟩
        show [Sl.dat (rwD x), Sl.dat (.int ((k : Nat) + 1))] = _
        rw [Int.natCast_succ]
      · refine ⟨_, rfl, fin fun z => h0 ?_⟩
        rw [if_neg Bool.false_ne_true, eqd_int, beq_iff_eq]
        exact z.2
    · refine (if_neg Bool.false_ne_true).mpr ⟨_, rfl, fin fun z => h (decide_eq_true ?_)⟩
      rw [List.length_map]
      omega
theorem okp_less (T : Txt K mg) : Calld P wd K mg base 2 "_less" ["row", "step", "place"] pLess := by
  refine defC T.dp_less scp_less ?_ pLess_mo ?_
  · rintro ds Q ⟨x, y, p, rfl, _⟩
    rfl
  · rintro f cdv A outer s0 H E w ds Q hr hG ⟨x, y, p, rfl, hl, hx, hp, hd, hm, q⟩
    refine ⟨_, (psd_cons (psd_set (i := 3) (ped_fdivZ (ped_at (fun _ _ => rfl) (ped_var 0) (ped_var 2)) (ped_at (fun _ _ => rfl) (ped_var 1) (ped_var 2))) scp_less.nd)
    (psd_one (psd_ret (ped_ifExp (ptd_ne hr (ped_var 3) ped_int) (ped_f ((okp_taken T).up (by decide)) hr hG (pad_cons (ped_var 0) (pad_cons (ped_f ((okp_times T).up (by decide)) hr hG (pad_cons (ped_var 1) (pad_cons (ped_var 3) pad_nil))) pad_nil))) (ped_var 0))))), ?_⟩
    refine ⟨_, rfl, _, rfl, .int (co x p), row_at hp, _, rfl, _, rfl, .int (co y p), row_at (hl ▸ hp), hd, ?_⟩
    refine ⟨_, rfl, shp_int _, shp_int _, _, rfl, ite2 (fun h => ?_) (fun h => ?_)⟩
    · exact ⟨_, rfl, _, rfl, _, rfl, y, _, rfl, by omega, hm, x, _, rfl, by omega, by rw [times_len]; omega, q⟩
    · have e : (co x p).fdiv (co y p) = 0 := by
        rw [if_pos rfl, eqd_int] at h
        simpa using h
      rw [less_none hl e] at q
      exact ⟨_, rfl, q⟩
theorem okp_joined (T : Txt K mg) : Calld P wd K mg base 2 "_joined" ["step", "row", "place"] pJoin := by
  refine defC T.dp_joined scp_joined ?_ pJoin_mo ?_
  · rintro ds Q ⟨x, y, p, b, rfl, _⟩
    rfl
  · rintro f cdv A outer s0 H E w ds Q hr hG ⟨x, y, p, b, rfl, hl, hx, hp, hs, hb, hbd, q⟩
    refine ⟨_, (psd_cons (psd_while (ptd_ne hr (ped_at (fun _ _ => rfl) (ped_var 1) (ped_var 2)) ped_int) (psd_one (psd_par (i := 0) (j := 1) (ped_var 1) (ped_f ((okp_taken T).up (by decide)) hr hG (pad_cons (ped_var 0) (pad_cons (ped_f ((okp_times T).up (by decide)) hr hG (pad_cons (ped_var 1) (pad_cons (ped_fdivZ (ped_at (fun _ _ => rfl) (ped_var 0) (ped_var 2)) (ped_at (fun _ _ => rfl) (ped_var 1) (ped_var 2))) pad_nil))) pad_nil))) scp_joined.nd)))
    (psd_one (psd_ret (ped_tup (pad_cons (ped_var 0) (pad_cons (ped_var 1) pad_nil)))))), ?_⟩
    refine ⟨fun n r => ∃ s t : List Int, r = [.dat (rwD s), .dat (rwD t), .dat (.int (p : Nat))] ∧ s.length = x.length ∧ t.length = x.length ∧ n = (co t p).natAbs ∧ Eu (2 ^ 600) p (co x) (co y) (co s) (co t), ⟨_, x, y, rfl, rfl, hl.symm, rfl, .start hs⟩, ?_⟩
    rintro n r ⟨s, t, rfl, ls, lt, rfl, eu⟩
    refine ⟨_, rfl, _, rfl, .int (co t p), row_at (by omega), shp_int _, shp_int _, _, rfl, ite2 (fun h0 => ?_) (fun h0 => ?_)⟩
    · have hne : co t p ≠ 0 := by
        rw [if_pos rfl, eqd_int] at h0
        simpa using h0
      intro nx hnx
      have bd := hbd _ _ eu
      have hq : ((co s p).fdiv (co t p)).natAbs < 2 ^ b := Nat.lt_of_le_of_lt (fdiv_abs hne) (bd p).1
      have hb0 : 0 < b := by
        rcases Nat.eq_zero_or_pos b with e | e
        · subst e
          have := (bd p).2
          omega
        · exact e
      have hm : ∀ a ∈ t, CMulA a ((co s p).fdiv (co t p)) := fun a ha => by
        obtain ⟨i, hi, rfl⟩ := List.mem_iff_getElem.mp ha
        rw [← co_at hi]
        refine .inr ?_
        have l1 := log_pow (bd i).2 hb0
        have l2 := log_pow hq hb0
        unfold CMulW
        omega
      have el : s.length = t.length := by omega
      refine ⟨_, rfl, _, rfl, _, rfl, _, rfl, _, rfl, .int (co s p), row_at (by omega), _, rfl, _, rfl, .int (co t p), row_at (by omega), dv_div eu.dv hne, t, _, rfl, by omega, hm, s, _, rfl, by omega, by rw [times_len]; omega, ?_⟩
      refine hnx _ ⟨(co (lessL s t p) p).natAbs, ?_, t, lessL s t p, rfl, lt, by rw [less_len el]; exact ls, rfl, eu.next hne fun i => co_less el p i⟩
      obtain ⟨m, e1, e2⟩ := fd (a := co s p) hne
      have e3 := co_less el p p
      omega
    · have h0 : co t p = 0 := by
        rw [if_pos rfl, eqd_int] at h0
        simpa using h0
      exact ⟨_, rfl, _, rfl, (by show 2 ≤ sizeLine; decide), q s t ls lt eu h0⟩
theorem okp_loweredF (T : Txt K mg) : CalldF P wd K mg base 3 "_lowered" ["some"] pLow := by
  refine defF T.dp_lowered scp_lowered ?_ pLow_mo ?_
  · rintro ds Q ⟨m, e, ss, rfl, _⟩
    rfl
  · rintro f cdv A outer s0 H E w ds Q hr hG hw ⟨m, e, ss, rfl, hm, hl, he, hs, hp, hsz, q⟩
    refine ⟨_, (psf_cons (psd_setF (i := 1) (pfd_lst pad_nil) scp_lowered.nd)
    (psf_cons (psd_for (pid_list (ped_var 0)) (pg_name (i := 2) scp_lowered.nd rfl (Or.inl rfl)) (gd_name 2) (gName_mo 2)
    (psd_cons (psd_set (i := 3) (ped_f ((okp_first_place T).up (by decide)) hr hG (pad_cons (ped_var 2) pad_nil)) scp_lowered.nd)
    (psd_cons (psd_set (i := 4) (ped_ifExp (ptd_gt (ped_at (fun _ _ => rfl) (ped_var 2) (ped_var 3)) ped_int) (ped_var 2) (ped_f ((okp_times T).up (by decide)) hr hG (pad_cons (ped_var 2) (pad_cons (ped_neg ped_int) pad_nil)))) scp_lowered.nd)
    (psd_cons (psd_setLcO (i := 1) (own := [("above", 5)]) scp_lowered.nd (fun _ => (pid_list (ped_var 1))) (blkOk_by (own := [("above", 5)]) (N := Np_lowered) (sc := defScope sp_lowered) (by decide +kernel)) (gds_name 5) (gName_mo 5) (by decide) (fun _ _ _ _ _ => (pg_name (i := 5) scp_lowered.nd rfl (Or.inl rfl))) (fun _ _ _ _ _ _ => ptsd_nil) (fun _ _ _ _ _ _ => (ped_f ((okp_less T).up (by decide)) hr hG (pad_cons (ped_var 5) (pad_cons (ped_var 4) (pad_cons (ped_var 3) pad_nil))))) s0 (sw_true rfl rfl rfl (by decide +kernel)))
    (psd_one (psd_app (i := 1) (ped_var 4)))))))
    (psf_retOwn 1 hw))), ?_⟩
    refine ⟨by decide, ?_⟩
    refine ⟨_, rfl, _, rfl, ?_⟩
    refine forD_run (fun i r => ∃ ms s2 s3 s4 s5, r = [.dat (.lst (ss.map rwD)), .own (ms.map rwD), s2, s3, s4, s5] ∧ Low m (ss.take i) ms ∧ ∀ x ∈ ms, El.Sm (i * (e + 1)) x) ⟨[], _, _, _, _, rfl, Low.nil m, fun _ h => absurd h List.not_mem_nil⟩ ?_ ?_
    · rintro r ⟨ms, s2, s3, s4, s5, rfl, L, _⟩
      rw [List.length_map, List.take_length] at L
      exact ⟨_, rfl, q ms L⟩
    · rintro i d r nx hd ⟨ms, s2, s3, s4, s5, rfl, L, sm⟩ k
      rw [List.getElem?_map] at hd
      obtain ⟨r0, hr0, rfl⟩ := Option.map_eq_some_iff.mp hd
      have mem0 := List.mem_of_getElem? hr0
      have len0 := hl r0 mem0
      have hi : i < ss.length := (List.getElem?_eq_some_iff.mp hr0).1
      obtain ⟨p, fp, _⟩ := he.has (co r0) (List.mem_map_of_mem mem0)
      obtain ⟨ep, lp⟩ := fpL_of fp
      have e0 : 0 < e := by
        rcases Nat.eq_zero_or_pos e with z | z
        · subst z
          have := hs r0 mem0 p
          have := fp.nz
          omega
        · exact z
      have big : ss.length + 1 ≤ (ss.length + 1) * (e + 1) := Nat.le_mul_of_pos_right _ (Nat.succ_pos _)
      have mul : i * (e + 1) ≤ (ss.length + 1) * (e + 1) := Nat.mul_le_mul_right _ (by omega)
      have mul2 : (i + 1) * (e + 1) ≤ (ss.length + 1) * (e + 1) := Nat.mul_le_mul_right _ (by omega)
      have mul3 : (i + 1) * (e + 1) = i * (e + 1) + e + 1 := by rw [Nat.add_mul]; omega
      -- with the step
      have rest : ∀ st : List Int, IsStep r0 st p → dLcK (dItL (dVar 1)) (dgName 5) dYes (dCall pLess (dCons (dVar 5) (dCons (dVar 4) (dCons (dVar 3) dNil)))) (List.map (fun x => x.2) [(("above" : Str), 5)]) (openE [.dat (.lst (ss.map rwD)), .own (ms.map rwD), .dat (rwD r0), .dat (.int (p : Nat)), .dat (rwD st), s5])
          (fun ds => noLs ds = true ∧ dApp 1 (dVar 4) { nx := nx, rt := fun _ => False } ([.dat (.lst (ss.map rwD)), .own (ms.map rwD), .dat (rwD r0), .dat (.int (p : Nat)), .dat (rwD st), s5].set 1 (.own ds))) := by
        intro st I
        have lst : st.length = m := I.len.trans len0
        have pv : (co st p).natAbs.log2 < 9000 := by
          rw [I.abs p]
          exact Nat.lt_trans (log_pow (e := 601) (Nat.lt_of_le_of_lt (hp r0 mem0 p fp) (Nat.pow_lt_pow_right (by decide) (by decide))) (by decide)) (by decide)
        refine ⟨_, rfl, _, rfl, ?_⟩
        refine lcK_all rwD (fun x => rwD (lessL x st p)) ms (by rw [L.cnt, List.length_take]; omega) (fun x hx Y hy => ?_) ?_ (fun d r Q Q' q h => q _ h)
        · have lx := L.len x hx
          have hk : ((co x p).fdiv (co st p)).natAbs < 2 ^ (i * (e + 1)) := Nat.lt_of_le_of_lt (fdiv_le I.pos) (sm x hx p)
          refine ⟨_, rfl, _, rfl, _, rfl, x, st, p, rfl, by omega, by omega, by omega, ⟨by have := I.pos; omega, .inl pv⟩, fun a ha => ?_, hy⟩
          obtain ⟨j, hj, rfl⟩ := List.mem_iff_getElem.mp ha
          rw [← co_at hj]
          refine .inr ?_
          have l1 : (co st j).natAbs.log2 < e := log_pow (x := co st j) (by rw [I.abs j]; exact hs r0 mem0 j) e0
          have l2 := log_pow (x := (co x p).fdiv (co st p)) (e := i * (e + 1) + 1) (Nat.lt_of_lt_of_le hk (Nat.pow_le_pow_right (by decide) (by omega))) (by omega)
          unfold CMulW
          omega
        · have em : ms.map (fun x => rwD (lessL x st p)) = (ms.map fun x => lessL x st p).map rwD := by rw [List.map_map]; rfl
          rw [em]
          refine ⟨noLs_rows _, _, rfl, _, rfl, by rw [List.length_map, List.length_map, L.cnt, List.length_take, sizeLine_eq]; omega, k _ ⟨ms.map (fun x => lessL x st p) ++ [st], .dat (rwD r0), .dat (.int (p : Nat)), .dat (rwD st), s5, ?_, ?_, ?_⟩⟩
          · rw [List.map_append]
            rfl
          · have et : ss.take (i + 1) = ss.take i ++ [r0] := by rw [List.take_add_one, hr0]; rfl
            rw [et]
            refine L.snoc len0 I fp fun s hs => ?_
            have ed : ss = ss.take i ++ r0 :: ss.drop (i + 1) := by
              have h0 : ss[i] = r0 := by rw [List.getElem?_eq_getElem hi] at hr0; exact Option.some.inj hr0
              rw [← h0, ← List.drop_eq_getElem_cons hi, List.take_append_drop]
            rw [ed, List.map_append, List.map_cons] at he
            exact he.before fp (co s) (List.mem_map_of_mem hs)
          · intro y hy
            rcases List.mem_append.mp hy with h | h
            · obtain ⟨x, hx, rfl⟩ := List.mem_map.mp h
              rw [mul3]
              exact less_sm (by rw [L.len x hx, lst]) (sm x hx) (fun j => by rw [I.abs j]; exact hs r0 mem0 j) I.pos
            · rw [List.mem_singleton.mp h]
              exact (show El.Sm e st from fun j => by rw [I.abs j]; exact hs r0 mem0 j).up (by omega)
      refine ⟨_, rfl, r0, rfl, by omega, ?_⟩
      rw [ep]
      refine ⟨_, rfl, _, rfl, .int (co r0 p), row_at lp, _, rfl, ite2 (fun h => ?_) (fun h => ?_)⟩
      · have I := step_is fp
        have e2 : stepL r0 p = r0 := if_pos (of_decide_eq_true h)
        rw [e2] at I
        exact ⟨_, rfl, rest r0 I⟩
      · have I := step_is fp
        have e2 : stepL r0 p = timesL r0 (-1) := if_neg fun z => h (decide_eq_true z)
        rw [e2] at I
        refine ⟨_, rfl, r0, -1, rfl, by omega, fun a ha => .inl (.inr ⟨by decide, by decide⟩), rest _ I⟩
theorem okp_with_rowF (T : Txt K mg) : CalldF P wd K mg base 4 "_with_row" ["made", "row"] pWith := by
  refine defF T.dp_with_row scp_with_row ?_ pWith_mo ?_
  · rintro ds Q ⟨m, G, made, row, rfl, _⟩
    rfl
  · rintro f cdv A outer s0 H E w ds Q hr hG hw ⟨m, G, made, row, rfl, hm, hn, fw, q⟩
    refine ⟨_, (psf_cons (psd_setF (i := 2) (pfd_lst pad_nil) scp_with_row.nd)
    (psf_cons (psd_set (i := 3) (ped_var 1) scp_with_row.nd)
    (psf_cons (psd_for (pid_list (ped_var 0)) (pg_name (i := 4) scp_with_row.nd rfl (Or.inl rfl)) (gd_name 4) (gName_mo 4)
    (psd_cons (psd_set (i := 5) (ped_min2 T.m_min (pad_cons (ped_f ((okp_first_place T).up (by decide)) hr hG (pad_cons (ped_var 4) pad_nil)) (pad_cons (ped_f ((okp_first_place T).up (by decide)) hr hG (pad_cons (ped_var 3) pad_nil)) pad_nil))) scp_with_row.nd)
    (psd_cons (psd_asg (ped_f ((okp_joined T).up (by decide)) hr hG (pad_cons (ped_var 4) (pad_cons (ped_var 3) (pad_cons (ped_var 5) pad_nil)))) (pg_tup rfl (pgs_cons (pg_name (i := 6) scp_with_row.nd rfl (Or.inl rfl)) (pgs_cons (pg_name (i := 3) scp_with_row.nd rfl (Or.inl rfl)) pgs_nil))) (gd_tup2 6 3) (gTup_mo (gCons_mo (gName_mo 6) (gCons_mo (gName_mo 3) gNil_mo))))
    (psd_one (psd_app (i := 2) (ped_var 6))))))
    (psf_cons (psd_if (ptd_val (ped_anyI T.m_any (pad_cons (ped_var 3) pad_nil))) (psd_one (psd_app (i := 2) (ped_var 3))) psd_nil)
    (psf_retF (pfd_open fun _ => (pfd_f ((okp_loweredF T).up (by decide)) hr hG (pad_cons (ped_var 2) pad_nil)))))))), ?_⟩
    have fG := fw.head
    have hrow : row.length = m := fw.len row (List.mem_append_right _ List.mem_cons_self)
    have hrs : El.Sm 100 row := fw.sm row (List.mem_append_right _ List.mem_cons_self)
    have hcnt : made.length ≤ 19 := by have := hn.cnt; have := fw.cnt; rw [List.length_append, List.length_singleton] at this; omega
    have small := hn.smallF fG
    refine ⟨by decide, ?_⟩
    refine ⟨_, rfl, ?_⟩
    refine ⟨_, rfl, _, rfl, ?_⟩
    refine forD_run (fun i r => ∃ some left N s4 s5 s6, r = [.dat (.lst (made.map rwD)), .dat (rwD row), .own (some.map rwD), .dat (rwD left), s4, s5, s6] ∧ Put m ((G ++ [row]).map co) some left (made.drop i) N ∧ some.length = i ∧ El.Sm (100 + i * 1203) left ∧ ∀ x ∈ some, El.Sm (100 + i * 1203) x)
      ⟨[], row, 0, _, _, _, rfl, Put.start hn hrow, rfl, hrs.up (by omega), fun _ h => absurd h List.not_mem_nil⟩ ?_ ?_
    · rintro r ⟨some, left, N, s4, s5, s6, rfl, pu, sl, lsm, ssm⟩
      rw [List.length_map] at sl lsm ssm
      rw [List.length_map, List.drop_length] at pu
      -- brought low
      have fin : ∀ ss : List (List Int), Ready m (G ++ [row]) ss → ss.length ≤ made.length + 1 → (∀ s ∈ ss, El.Sm (100 + made.length * 1203) s) → pLow [.lst (ss.map rwD)] fun xs => noLs xs = true ∧ Q xs := fun ss R hl hs => by
        refine ⟨m, 100 + made.length * 1203, ss, rfl, hm, R.len, R.ech, hs, fun s hs q f => pivotsF fw R.ech R.l1 R.l2 hs f, ?_, fun ms L => ⟨noLs_rows ms, q ms (R.low ?_ L)⟩⟩
        · exact Nat.le_trans (Nat.mul_le_mul (show ss.length + 1 ≤ 21 by omega) (show 100 + made.length * 1203 + 1 ≤ 22958 by omega)) (by decide)
        · rw [List.length_append, List.length_singleton]
          have := hn.cnt
          omega
      -- is any left?
      have hll := pu.ll
      obtain ⟨dn1, dn2⟩ := pu.done
      have anyE : left.any (fun n => n != 0) = decide (fpL left < m) := by
        rw [Bool.eq_iff_iff, decide_eq_true_eq, List.any_eq_true]
        constructor
        · rintro ⟨x, hx, hn0⟩
          by_cases c : fpL left < m
          · exact c
          · obtain ⟨j, hj, rfl⟩ := List.mem_iff_getElem.mp hx
            have z := fpL_all (xs := left) (by omega) j
            rw [co_at hj] at z
            rw [z] at hn0
            exact absurd hn0 (by decide)
        · intro c
          refine ⟨co left (fpL left), co_mem (by omega), ?_⟩
          simpa using fpL_nz left (by omega)
      refine ⟨_, rfl, left, rfl, _, rfl, ?_⟩
      rw [anyE]
      by_cases c : fpL left < m
      · rw [decide_eq_true c]
        refine (if_pos rfl).mpr ⟨_, rfl, _, rfl, by rw [List.length_map, sizeLine_eq]; omega, _, rfl, ?_⟩
        have z := fin (some ++ [left]) (dn1 c) (by rw [List.length_append, List.length_singleton]; omega) fun s hs => by
          rcases List.mem_append.mp hs with h | h
          · exact ssm s h
          · rw [List.mem_singleton.mp h]; exact lsm
        rw [List.map_append] at z
        exact z
      · rw [decide_eq_false c]
        exact (if_neg Bool.false_ne_true).mpr ⟨_, rfl, fin some (dn2 c) (by omega) ssm⟩
    · rintro i d r nx hd ⟨some, left, N, s4, s5, s6, rfl, pu, sl, lsm, ssm⟩ k
      rw [List.getElem?_map] at hd
      obtain ⟨step, hst, rfl⟩ := Option.map_eq_some_iff.mp hd
      have mem := List.mem_of_getElem? hst
      have lst := hn.len step mem
      have hi : i < made.length := (List.getElem?_eq_some_iff.mp hst).1
      have ed : made.drop i = step :: made.drop (i + 1) := by
        rw [List.drop_eq_getElem_cons hi]
        congr 1
        rw [List.getElem?_eq_getElem hi] at hst
        exact Option.some.inj hst
      rw [ed] at pu
      obtain ⟨p, fp, _⟩ := hn.ech.has (co step) (List.mem_map_of_mem mem)
      obtain ⟨ep, lp⟩ := fpL_of fp
      refine ⟨_, rfl, step, rfl, by omega, _, rfl, left, rfl, by have := pu.ll; omega, _, _, rfl, ?_⟩
      rw [ep]
      have hll := pu.ll
      have pm : p < m := by omega
      -- the place where they meet
      have place : ∃ t : Nat, (if (((fpL left : Nat) : Int)) < ((p : Nat) : Int) then ((fpL left : Nat) : Int) else ((p : Nat) : Int)) = ((t : Nat) : Int) ∧ t = (if fpL left < p then fpL left else p) := by
        refine ⟨_, ?_, rfl⟩
        by_cases c : fpL left < p
        · rw [if_pos c, if_pos (by omega)]
        · rw [if_neg c, if_neg (by omega)]
      obtain ⟨t, et, ht⟩ := place
      rw [et]
      have tp : t ≤ p := by rw [ht]; split <;> omega
      have stp : (co step t).natAbs ≤ 2 ^ 600 := by
        rcases Nat.lt_or_eq_of_le tp with l | l
        · rw [fp.zs t l]; exact Nat.zero_le _
        · rw [l]; exact pivotsF fG hn.ech hn.l1 hn.l2 mem fp
      have le8 : 100 + i * 1203 + 1203 ≤ 400000 := by omega
      refine ⟨_, rfl, _, rfl, _, rfl, step, left, t, 100 + i * 1203 + 1203, rfl, by omega, by omega, by omega, stp, le8, fun s r eu => joined_smF eu (small step mem) lsm stp, fun u l hu hl eu l0 => ?_⟩
      have bd := joined_smF eu (small step mem) lsm stp
      have en : 100 + (i + 1) * 1203 = 100 + i * 1203 + 1203 := by omega
      refine ⟨_, _, rfl, _, rfl, _, rfl, by rw [List.length_map, sizeLine_eq]; omega, k _ ⟨some ++ [u], l, t + 1, .dat (rwD step), .dat (.int (t : Nat)), .dat (rwD u), ?_, pu.next lst (hu.trans lst) (hl.trans lst) fp ht eu l0, ?_, ?_, ?_⟩⟩
      · rw [List.map_append]
        rfl
      · rw [List.length_append, List.length_singleton, sl]
      · rw [en]
        exact fun j => (bd j).2
      · intro x hx
        rw [en]
        rcases List.mem_append.mp hx with h | h
        · exact (ssm x h).up (by omega)
        · rw [List.mem_singleton.mp h]
          exact fun j => (bd j).1
theorem okp_stepsF (T : Txt K mg) : CalldF P wd K mg base 5 "steps" ["rows"] pStepsF := by
  refine defF T.dp_steps scp_steps ?_ pStepsF_mo ?_
  · rintro ds Q ⟨m, G, rfl, _⟩
    rfl
  · rintro f cdv A outer s0 H E w ds Q hr hG hw ⟨m, G, rfl, hm, fw, q⟩
    refine ⟨_, (psf_cons (psd_setF (i := 1) (pfd_lst pad_nil) scp_steps.nd)
      (psf_cons (psd_for (pid_list (ped_var 0)) (pg_name (i := 2) scp_steps.nd rfl (Or.inl rfl)) (gd_name 2) (gName_mo 2)
      (psd_one (psd_setF (i := 1) (pfd_open fun _ => (pfd_f ((okp_with_rowF T).up (by decide)) hr hG (pad_cons (ped_var 1) (pad_cons (ped_var 2) pad_nil)))) scp_steps.nd)))
      (psf_retOwn 1 hw))), ?_⟩
    refine ⟨by show 0 ≤ sizeLine; decide, ?_⟩
    refine ⟨_, rfl, _, rfl, ?_⟩
    refine forD_run (fun i r => ∃ ms s2, r = [.dat (.lst (G.map rwD)), .own (ms.map rwD), s2] ∧ Hnf m (G.take i) ms) ⟨[], _, rfl, Hnf.nil m⟩ ?_ ?_
    · rintro r ⟨ms, s2, rfl, h⟩
      rw [List.length_map, List.take_length] at h
      exact ⟨_, rfl, q ms h⟩
    · rintro i d r nx hd ⟨ms, s2, rfl, h⟩ k
      rw [List.getElem?_map] at hd
      obtain ⟨g, hg, rfl⟩ := Option.map_eq_some_iff.mp hd
      have et : G.take (i + 1) = G.take i ++ [g] := by rw [List.take_add_one, hg]; rfl
      have fw' := Fine.take fw (i + 1)
      rw [et] at fw'
      refine ⟨_, rfl, _, rfl, m, G.take i, ms, g, rfl, hm, h, fw', fun ms' h' => ⟨noLs_rows ms', k _ ⟨ms', _, rfl, ?_⟩⟩⟩
      rw [et]
      exact h'
theorem okp_steps (T : Txt K mg) : Calld P wd K mg base 5 "steps" ["rows"] pSteps := (okp_stepsF T).dat
end
end K23
namespace K23
open PySem PySem.Spec PyProof.Rows L2 Pd El Rw
section
variable {P : Program} {wd : World} {K : PySem.W.Frag} {mg : Str → Option Value} {base : Heap}
theorem okp_cleared (T : Txt K mg) : Calld P wd K mg base 6 "_cleared" ["rows", "row"] pCleared := by
  refine defC T.dp_cleared scp_cleared ?_ pCleared_mo ?_
  · rintro ds Q ⟨m, a, G, row, rfl, _⟩
    rfl
  · rintro f cdv A outer s0 H E w ds Q hr hG ⟨m, a, G, row, rfl, hm, fw, hrow, hsm, ha, q⟩
    refine ⟨_, (psd_cons (psd_par (i := 2) (j := 3) ped_int (ped_var 1) scp_cleared.nd)
    (psd_cons (psd_for (pid_list (ped_f ((okp_steps T).up (by decide)) hr hG (pad_cons (ped_var 0) pad_nil))) (pg_name (i := 4) scp_cleared.nd rfl (Or.inl rfl)) (gd_name 4) (gName_mo 4)
    (psd_cons (psd_set (i := 5) (ped_f ((okp_first_place T).up (by decide)) hr hG (pad_cons (ped_var 4) pad_nil)) scp_cleared.nd)
    (psd_cons (psd_set (i := 6) (ped_fdivZ (ped_at (fun _ _ => rfl) (ped_var 4) (ped_var 5)) (ped_gcd T.m_gcd (pad_cons (ped_at (fun _ _ => rfl) (ped_var 4) (ped_var 5)) (pad_cons (ped_at (fun _ _ => rfl) (ped_var 3) (ped_var 5)) pad_nil)))) scp_cleared.nd)
    (psd_cons (psd_set (i := 2) (ped_mul (ped_var 2) (ped_var 6)) scp_cleared.nd)
    (psd_cons (psd_set (i := 3) (ped_f ((okp_times T).up (by decide)) hr hG (pad_cons (ped_var 3) (pad_cons (ped_var 6) pad_nil))) scp_cleared.nd)
    (psd_one (psd_set (i := 3) (ped_f ((okp_taken T).up (by decide)) hr hG (pad_cons (ped_var 3) (pad_cons (ped_f ((okp_times T).up (by decide)) hr hG (pad_cons (ped_var 4) (pad_cons (ped_fdivZ (ped_at (fun _ _ => rfl) (ped_var 3) (ped_var 5)) (ped_at (fun _ _ => rfl) (ped_var 4) (ped_var 5))) pad_nil))) pad_nil))) scp_cleared.nd)))))))
    (psd_one (psd_ret (ped_tup (pad_cons (ped_var 2) (pad_cons (ped_var 3) pad_nil))))))), ?_⟩
    refine ⟨_, rfl, ?_⟩
    refine ⟨_, rfl, m, G, rfl, hm, fw, fun ms H' => ⟨_, rfl, ?_⟩⟩
    have small := H'.smallF fw
    have hc : ms.length ≤ 20 := Nat.le_trans H'.cnt fw.cnt
    refine forD_run (fun i r => ∃ (N : Int) (l : List Int) (s4 s5 s6 : Sl), r = [.dat (.lst (G.map rwD)), .dat (rwD row), .dat (.int N), .dat (rwD l), s4, s5, s6] ∧ Clr m (ms.take i) row N l ∧ El.Sm (a + i * 1804) l ∧ N.natAbs < 2 ^ (1 + i * 602)) ⟨1, row, _, _, _, rfl, Clr.start hrow, hsm.up (by omega), by decide⟩ ?_ ?_
    · rintro r ⟨N, l, s4, s5, s6, rfl, h, _, _⟩
      rw [List.length_map, List.take_length] at h
      exact ⟨_, rfl, _, rfl, by show 2 ≤ sizeLine; decide, q ms N l H' h⟩
    · rintro i d r nx hd ⟨N, l, s4, s5, s6, rfl, h, sm, sN⟩ k
      rw [List.getElem?_map] at hd
      obtain ⟨s, hs, rfl⟩ := Option.map_eq_some_iff.mp hd
      have mem := List.mem_of_getElem? hs
      have hi : i < ms.length := (List.getElem?_eq_some_iff.mp hs).1
      have ls := H'.len s mem
      have ll := h.len
      obtain ⟨p, fp, _⟩ := H'.ech.has (co s) (List.mem_map_of_mem mem)
      obtain ⟨ep, lp⟩ := fpL_of fp
      have pos := H'.pos s mem p fp
      have pv6 := pivotsF fw H'.ech H'.l1 H'.l2 mem fp
      have pv : (co s p).natAbs.log2 < 9000 := Nat.lt_trans (log_pow (e := 601) (Nat.lt_of_le_of_lt pv6 (Nat.pow_lt_pow_right (by decide) (by decide))) (by decide)) (by decide)
      obtain ⟨f1, f2, f3⟩ := facOf_is (b := co l p) pos
      have eg : ((Nat.gcd (co s p).natAbs (co l p).natAbs : Nat) : Int) = (((co s p).gcd (co l p) : Nat) : Int) := rfl
      have fle : (facOf (co s p) (co l p)).natAbs ≤ 2 ^ 600 := by
        refine Nat.le_trans ?_ pv6
        conv => rhs; rw [f2]
        rw [Int.natAbs_mul]
        exact Nat.le_mul_of_pos_right _ (by omega)
      have flt : (facOf (co s p) (co l p)).natAbs < 2 ^ 601 := Nat.lt_of_le_of_lt fle (Nat.pow_lt_pow_right (by decide) (by decide))
      refine ⟨_, rfl, s, rfl, by omega, ?_⟩
      rw [ep]
      refine ⟨_, rfl, _, rfl, .int (co s p), row_at lp, _, rfl, _, rfl, .int (co s p), row_at lp, _, rfl, _, rfl, .int (co l p), row_at (by omega), _, _, rfl, ⟨by rw [eg]; omega, .inr (.inl pv)⟩, ?_⟩
      rw [eg]
      show dSeq _ _ _ ([.dat (.lst (G.map rwD)), .dat (rwD row), .dat (.int N), .dat (rwD l), .dat (rwD s), .dat (.int (p : Nat)), .dat (.int (facOf (co s p) (co l p)))])
      generalize hF : facOf (co s p) (co l p) = F at f1 fle flt
      refine ⟨_, rfl, _, rfl, mulA sN flt (by omega), ?_⟩
      have ml : ∀ x ∈ l, CMulA x F := fun x hx => by
        obtain ⟨j, hj, rfl⟩ := List.mem_iff_getElem.mp hx
        rw [← co_at hj]
        exact mulA (sm j) flt (by omega)
      refine ⟨_, rfl, _, rfl, l, F, rfl, by omega, ml, ?_⟩
      have lF : (timesL l F).length = m := by rw [times_len]; exact ll
      have smF : El.Sm (a + i * 1804 + 601) (timesL l F) := fun j => by
        rw [co_times, Int.natAbs_mul, Nat.pow_add]
        exact Nat.mul_lt_mul'' (sm j) flt
      have cF : co (timesL l F) p = co l p * F := co_times ..
      refine ⟨_, rfl, _, rfl, _, rfl, _, rfl, .int (co (timesL l F) p), row_at (by omega), _, rfl, _, rfl, .int (co s p), row_at lp, ⟨by omega, .inl pv⟩, s, _, rfl, by omega, ?_, ?_⟩
      · intro x hx
        obtain ⟨j, hj, rfl⟩ := List.mem_iff_getElem.mp hx
        rw [← co_at hj]
        exact mulA (small s mem j) (Nat.lt_of_le_of_lt (fdiv_le pos) (smF p)) (by omega)
      refine ⟨timesL l F, timesL s ((co (timesL l F) p).fdiv (co s p)), rfl, by omega, by rw [times_len]; omega, k _ ⟨N * F, takenL (timesL l F) (timesL s ((co (timesL l F) p).fdiv (co s p))), _, _, _, rfl, ?_, fun j => ?_, ?_⟩⟩
      · have et : ms.take (i + 1) = ms.take i ++ [s] := by rw [List.take_add_one, hs]; rfl
        have e2 : Ech 0 ((ms.take i ++ [s]).map co) := by
          have z := H'.ech
          have ed : ms = ms.take (i + 1) ++ ms.drop (i + 1) := (List.take_append_drop _ _).symm
          rw [ed, List.map_append] at z
          rw [← et]; exact z.front
        rw [et, cF]
        have z := h.snoc ls (fun x hx => H'.len x (List.mem_of_mem_take hx)) e2 fp pos hrow
        rw [hF] at z
        exact z
      · rw [co_taken (by rw [times_len, times_len]; omega), co_times s]
        have b1 := smF j
        have b2 : (co s j * (co (timesL l F) p).fdiv (co s p)).natAbs < 2 ^ 1200 * 2 ^ (a + i * 1804 + 601) := by
          rw [Int.natAbs_mul]
          exact Nat.mul_lt_mul'' (small s mem j) (Nat.lt_of_le_of_lt (fdiv_le pos) (smF p))
        rw [← Nat.pow_add] at b2
        have b3 : 2 ^ (a + i * 1804 + 601) ≤ 2 ^ (1200 + (a + i * 1804 + 601)) := Nat.pow_le_pow_right (by decide) (by omega)
        have e1 : 2 ^ (a + (i + 1) * 1804) = 2 ^ 3 * 2 ^ (1200 + (a + i * 1804 + 601)) := by rw [← Nat.pow_add]; congr 1; omega
        generalize 2 ^ (1200 + (a + i * 1804 + 601)) = Z at b2 b3 e1
        omega
      · rw [Int.natAbs_mul]
        have z := Nat.mul_lt_mul'' sN flt
        rw [← Nat.pow_add] at z
        exact Nat.lt_of_lt_of_le z (Nat.pow_le_pow_right (by decide) (by omega))
theorem okp_is_held (T : Txt K mg) : Calld P wd K mg base 7 "is_held" ["rows", "row"] pIsHeldP := by
  refine defC T.dp_is_held scp_is_held ?_ pIsHeldP_mo ?_
  · rintro ds Q ⟨m, a, G, row, rfl, _⟩
    rfl
  · rintro f cdv A outer s0 H E w ds Q hr hG ⟨m, a, G, row, rfl, hm, fw, hrow, hsm, ha, q⟩
    refine ⟨_, (psd_cons (psd_asg (ped_f ((okp_cleared T).up (by decide)) hr hG (pad_cons (ped_var 0) (pad_cons (ped_var 1) pad_nil))) (pg_tup rfl (pgs_cons (pg_name (i := 2) scp_is_held.nd rfl (Or.inl rfl)) (pgs_cons (pg_name (i := 3) scp_is_held.nd rfl (Or.inl rfl)) pgs_nil))) (gd_tup2 2 3) (gTup_mo (gCons_mo (gName_mo 2) (gCons_mo (gName_mo 3) gNil_mo))))
    (psd_one (psd_ret (ped_not (ped_anyI T.m_any (pad_cons (ped_var 3) pad_nil)))))), ?_⟩
    refine ⟨_, rfl, _, rfl, m, a, G, row, rfl, hm, fw, hrow, hsm, ha, fun ms N l H' h => ⟨_, _, rfl, ?_⟩⟩
    refine ⟨_, rfl, l, rfl, _, rfl, q _ ?_⟩
    have hh : Held (G.map co) (co row) ↔ Held (ms.map co) (co row) := ⟨fun z => z.mono fun g hg => (H'.up g hg).held, fun z => z.mono fun g hg => (H'.dn g hg).held⟩
    rw [hh, ← h.held H'.ech]
    cases e : l.any (fun n => n != 0) with
    | true => exact ⟨(fun z => by cases z), fun z => absurd z (any_left.mp e)⟩
    | false => exact ⟨(fun _ => Classical.byContradiction fun z => by rw [any_left.mpr z] at e; cases e), fun _ => rfl⟩
end
end K23
namespace K23
open PySem PySem.Spec PyProof.Rows L2 Pd El Rw
section
variable {P : Program} {wd : World} {K : PySem.W.Frag} {mg : Str → Option Value} {base : Heap}
theorem ok_alike (T : Txt K mg) : Calld P wd K mg base 1 "_law_alike" ["_law_found", "_law_due"] pAlike := by
  refine defC T.d_alike sc_alike ?_ pAlike_mo ?_
  · rintro ds Q ⟨x, n, c, rfl, _⟩
    rfl
  · rintro f cdv A outer s0 H E w ds Q hr hG ⟨x, n, c, rfl, z, hn, hc, q⟩
    refine ⟨_, (psd_one (psd_ret (ped_and (ped_eq hr (ped_var 0) (ped_var 1)) (ped_one (ped_eqS (ped_repr hr hG T.m_repr (pad_cons (ped_var 0) pad_nil)) (ped_repr hr hG T.m_repr (pad_cons (ped_var 1) pad_nil))))))), ?_⟩
    refine ⟨_, rfl, _, rfl, z.shp hn, z.shp hn, _, rfl, ?_⟩
    rw [eqd_refl z]
    refine (if_pos rfl).mpr ?_
    refine ⟨_, rfl, _, rfl, z.ok hn hc, _, rfl, _, rfl, z.ok hn hc, _, _, rfl, rfl, ?_⟩
    rw [beq_self_eq_true]
    exact q
theorem ok_one (T : Txt K mg) : Calld P wd K mg base 2 "_law_one" ["_law_bag_here", "_law_things"] pOne := by
  refine defC T.d_one sc_one ?_ pOne_mo ?_
  · rintro ds Q ⟨x, xs, rfl, _⟩
    rfl
  · rintro f cdv A outer s0 H E w ds Q hr hG ⟨x, xs, rfl, hs, hi, ne, hl, q⟩
    refine ⟨_, (psd_one (psd_ret (ped_at (fun _ _ => rfl) (ped_var 1) (ped_f ((ok_take T).up (by decide)) hr hG (pad_cons (ped_var 0) (pad_cons (ped_len T.m_len (pad_cons (ped_var 1) pad_nil)) pad_nil)))))), ?_⟩
    have hp : 0 < xs.length := List.length_pos_iff.mpr ne
    refine ⟨_, rfl, _, rfl, _, rfl, _, rfl, .inl ⟨xs, hs, _, rfl, by omega, log_small (by omega) (by omega), fun r h1 h2 => ?_⟩⟩
    have h3 : r.toNat < xs.length := by omega
    have z := atD (xs := xs) h1 h3
    have m := q _ (List.getElem_mem h3)
    cases x with
    | lst ys => cases hs; exact ⟨_, z, m⟩
    | tup ys => cases hs; exact ⟨_, z, m⟩
    | _ => cases hi
theorem ok_mixture (T : Txt K mg) : Calld P wd K mg base 1 "_law_mixture" ["_law_rows", "_law_numbers", "_law_many"] pMix := by
  refine defC T.d_mixture sc_mixture ?_ pMix_mo ?_
  · rintro ds Q ⟨m, e, G, c, rfl, _⟩
    rfl
  · rintro f cdv A outer s0 H E w ds Q hr hG ⟨m, e, G, c, rfl, hm, hn, hc, hl, hs, hsc, he, q⟩
    refine ⟨_, (psd_cons (psd_set (i := 3) (ped_rep (ped_lst (pad_cons ped_int pad_nil)) (ped_var 2)) sc_mixture.nd)
    (psd_cons (psd_for (pid_range T.m_range (ped_len T.m_len (pad_cons (ped_var 0) pad_nil))) (pg_name (i := 4) sc_mixture.nd rfl (Or.inr rfl)) (gd_name 4) (gName_mo 4)
    (psd_one (psd_set (i := 3) (ped_lc (own := [("_law_at", 5)]) sc_mixture.nd (pid_range T.m_range (ped_var 2)) (blkOk_by (own := [("_law_at", 5)]) (N := N_mixture) (sc := defScope s_mixture) (by decide +kernel)) (gd_name 5) (gName_mo 5) (by decide) (fun _ _ _ _ _ => (pg_name (i := 5) sc_mixture.nd rfl (Or.inl rfl))) (fun _ _ _ _ _ => ptsd_nil) (fun _ _ _ _ _ => (ped_add (ped_at (fun _ _ => rfl) (ped_var 3) (ped_var 5)) (ped_mul (ped_at (fun _ _ => rfl) (ped_var 1) (ped_var 4)) (ped_at (fun _ _ => rfl) (ped_at (fun _ _ => rfl) (ped_var 0) (ped_var 4)) (ped_var 5))))) s0) sc_mixture.nd)))
    (psd_one (psd_ret (ped_tupF T.m_tuple (pad_cons (ped_var 3) pad_nil)))))), ?_⟩
    have e0 : (List.replicate m [Da.int 0]).flatten = (List.replicate m (0 : Int)).map .int := by rw [List.map_replicate]; exact List.flatten_replicate_singleton
    refine ⟨by show 1 ≤ sizeLine; decide, _, rfl, ?_⟩
    refine ⟨by omega, by omega, by show 1 * _ ≤ _; rw [sizeLine_eq]; omega, ?_⟩
    rw [Int.toNat_natCast, e0]
    refine ⟨_, rfl, _, rfl, .inl ⟨_, rfl, (G.length : Nat), by rw [List.length_map], by omega, by omega, ?_⟩⟩
    refine forD_run (fun k r => ∃ (f : List Int) (s4 s5 : Sl), r = [.dat (.lst (G.map rwD)), .dat (lstD c), .dat (.int (m : Nat)), .dat (lstD f), s4, s5] ∧ f.length = m ∧ ∀ j < m, co f j = mixF (co c) (G.take k) j) ⟨List.replicate m 0, _, _, rfl, List.length_replicate, fun j _ => co_rep m j⟩ ?_ ?_
    · rintro r ⟨f, s4, s5, rfl, lf, hf⟩
      rw [rngD_len, Int.toNat_natCast, List.take_length] at hf
      exact ⟨_, rfl, _, rfl, .inl ⟨_, rfl, q f lf hf⟩⟩
    · rintro k d r nx hd ⟨f, s4, s5, rfl, lf, hf⟩ kk
      have hk : k < G.length := by
        have := (List.getElem?_eq_some_iff.mp hd).1
        rwa [rngD_len, Int.toNat_natCast] at this
      rw [Int.toNat_natCast, rngD_at hk] at hd
      cases hd
      have hg := List.getElem_mem hk
      refine ⟨_, rfl, (m : Nat), rfl, by omega, by omega, ?_⟩
      refine lcD_rng m (fun j => Da.int (co f j + co c k * co G[k] j)) (by omega) (fun j hj R hR => ?_) ?_
      · refine ⟨_, rfl, _, rfl, .int (co f j), row_at (by omega), _, rfl, _, rfl, .int (co c k), row_at (by omega), _, rfl, _, rfl, rwD G[k], ?_, _, rfl, .int (co G[k] j), row_at (by rw [hl _ hg]; exact hj), ?_, hR⟩
        · refine L2.atI_nat ?_
          rw [List.getElem?_map, List.getElem?_eq_getElem hk]; rfl
        · exact mulA (hsc k) (Nat.lt_of_le_of_lt (hs _ hg j) (show 30 < 2 ^ 5 by decide)) (by omega)
      · have el : (List.range m).map (fun j => Da.int (co f j + co c k * co G[k] j)) = ((List.range m).map fun j => co f j + co c k * co G[k] j).map .int := by rw [List.map_map]; rfl
        rw [el]
        refine kk _ ⟨(List.range m).map fun j => co f j + co c k * co G[k] j, _, _, rfl, by rw [List.length_map, List.length_range], fun j hj => ?_⟩
        have et : G.take (k + 1) = G.take k ++ [G[k]] := by rw [List.take_add_one, List.getElem?_eq_getElem hk]; rfl
        rw [co_at (by rw [List.length_map, List.length_range]; exact hj), List.getElem_map, List.getElem_range, et, mixF_snoc, List.length_take, Nat.min_eq_left (by omega), hf j hj]
theorem ok_less (T : Txt K mg) : Calld P wd K mg base 1 "_law_less" ["_law_row", "_law_mine", "_law_other", "_law_its"] pLLess := by
  refine defC T.d_less sc_less ?_ pLLess_mo ?_
  · rintro ds Q ⟨x, y, k, rfl, _⟩
    rfl
  · rintro f cdv A outer s0 H E w ds Q hr hG ⟨x, y, k, rfl, hl, hx, m1, m2, q⟩
    refine ⟨_, (psd_one (psd_ret (ped_lc (own := [("_law_k", 4)]) sc_less.nd (pid_range T.m_range (ped_len T.m_len (pad_cons (ped_var 0) pad_nil))) (blkOk_by (own := [("_law_k", 4)]) (N := N_less) (sc := defScope s_less) (by decide +kernel)) (gd_name 4) (gName_mo 4) (by decide) (fun _ _ _ _ _ => (pg_name (i := 4) sc_less.nd rfl (Or.inl rfl))) (fun _ _ _ _ _ => ptsd_nil) (fun _ _ _ _ _ => (ped_sub (ped_mul (ped_var 1) (ped_at (fun _ _ => rfl) (ped_var 0) (ped_var 4))) (ped_mul (ped_var 3) (ped_at (fun _ _ => rfl) (ped_var 2) (ped_var 4))))) s0))), ?_⟩
    refine ⟨_, rfl, _, rfl, .inl ⟨_, rfl, (x.length : Nat), by rw [List.length_map], by omega, by omega, ?_⟩⟩
    refine lcD_rng x.length (fun i => Da.int (co (takenL x (timesL y k)) i)) (by omega) (fun i hi R hR => ?_) ?_
    · have ly : i < y.length := by omega
      refine ⟨_, rfl, _, rfl, _, rfl, .int (co x i), row_at hi, m1 _ (co_mem hi), _, rfl, _, rfl, _, rfl, .int (co y i), row_at ly, m2 _ (co_mem ly), True.intro, ?_⟩
      rw [co_taken (by rw [times_len]; exact hl), co_times] at hR
      show R (.int (1 * co x i - k * co y i))
      rw [Int.one_mul, Int.mul_comm k]
      exact hR
    · have e : (List.range x.length).map (fun i => Da.int (co (takenL x (timesL y k)) i)) = (takenL x (timesL y k)).map .int := by
        refine List.ext_getElem (by rw [List.length_map, List.length_map, List.length_range, taken_len (by rw [times_len]; exact hl)]) fun i h1 h2 => ?_
        rw [List.getElem_map, List.getElem_map, List.getElem_range, co_at (by rw [List.length_map] at h2; exact h2)]
      rw [e]
      exact q
theorem ok_lessG (T : Txt K mg) : Calld P wd K mg base 1 "_law_less" ["_law_row", "_law_mine", "_law_other", "_law_its"] pLLessG := by
  refine defC T.d_less sc_less ?_ pLLessG_mo ?_
  · rintro ds Q ⟨x, y, j, k, rfl, _⟩
    rfl
  · rintro f cdv A outer s0 H E w ds Q hr hG ⟨x, y, j, k, rfl, hl, hx, m1, m2, q⟩
    refine ⟨_, (psd_one (psd_ret (ped_lc (own := [("_law_k", 4)]) sc_less.nd (pid_range T.m_range (ped_len T.m_len (pad_cons (ped_var 0) pad_nil))) (blkOk_by (own := [("_law_k", 4)]) (N := N_less) (sc := defScope s_less) (by decide +kernel)) (gd_name 4) (gName_mo 4) (by decide) (fun _ _ _ _ _ => (pg_name (i := 4) sc_less.nd rfl (Or.inl rfl))) (fun _ _ _ _ _ => ptsd_nil) (fun _ _ _ _ _ => (ped_sub (ped_mul (ped_var 1) (ped_at (fun _ _ => rfl) (ped_var 0) (ped_var 4))) (ped_mul (ped_var 3) (ped_at (fun _ _ => rfl) (ped_var 2) (ped_var 4))))) s0))), ?_⟩
    refine ⟨_, rfl, _, rfl, .inl ⟨_, rfl, (x.length : Nat), by rw [List.length_map], by omega, by omega, ?_⟩⟩
    have lt : (timesL x j).length = (timesL y k).length := by rw [times_len, times_len]; exact hl
    refine lcD_rng x.length (fun i => Da.int (co (takenL (timesL x j) (timesL y k)) i)) (by omega) (fun i hi R hR => ?_) ?_
    · have ly : i < y.length := by omega
      refine ⟨_, rfl, _, rfl, _, rfl, .int (co x i), row_at hi, m1 _ (co_mem hi), _, rfl, _, rfl, _, rfl, .int (co y i), row_at ly, m2 _ (co_mem ly), True.intro, ?_⟩
      rw [co_taken lt, co_times, co_times] at hR
      show R (.int (j * co x i - k * co y i))
      rw [Int.mul_comm k, Int.mul_comm j]
      exact hR
    · have e : (List.range x.length).map (fun i => Da.int (co (takenL (timesL x j) (timesL y k)) i)) = (takenL (timesL x j) (timesL y k)).map .int := by
        refine List.ext_getElem (by rw [List.length_map, List.length_map, List.length_range, taken_len lt, times_len]) fun i h1 h2 => ?_
        rw [List.getElem_map, List.getElem_map, List.getElem_range, co_at (by rw [List.length_map] at h2; exact h2)]
      rw [e]
      exact q
theorem ok_cut (T : Txt K mg) : Calld P wd K mg base 2 "_law_cut" ["_law_rows"] pCut := by
  refine defCW T.d_cut sc_cut ?_ pCut_mo ?_
  · rintro ds Q ⟨m, e, G, rfl, _⟩
    rfl
  · rintro f cdv A outer s0 H E w ds Q hr hG hw ⟨m, e, G, rfl, hm, hn, hlen, hsm, hex, q⟩
    refine ⟨_, (psd_cons (psd_parFE (i := 1) (j := 2) (pfd_lst pad_nil) (ped_lc (own := [("_law_row", 7)]) sc_cut.nd (pid_list (ped_var 0)) (blkOk_by (own := [("_law_row", 7)]) (N := N_cut) (sc := defScope s_cut) (by decide +kernel)) (gd_name 7) (gName_mo 7) (by decide) (fun _ _ _ _ _ => (pg_name (i := 7) sc_cut.nd rfl (Or.inl rfl))) (fun _ _ _ _ _ => ptsd_nil) (fun _ _ _ _ _ => (ped_lstF T.m_list (pad_cons (ped_var 7) pad_nil))) s0) sc_cut.nd)
    (psd_cons (psd_for (pid_range T.m_range (ped_ifExp (ptd_neNil hr (ped_var 0) (ped_lst pad_nil)) (ped_len T.m_len (pad_cons (ped_at (fun _ _ => rfl) (ped_var 0) ped_int) pad_nil)) ped_int)) (pg_name (i := 3) sc_cut.nd rfl (Or.inr rfl)) (gd_name 3) (gName_mo 3)
    (psd_cons (psd_setLc (i := 4) (own := [("_law_row", 7)]) sc_cut.nd (pid_list (ped_var 2)) (blkOk_by (own := [("_law_row", 7)]) (N := N_cut) (sc := defScope s_cut) (by decide +kernel)) (gd_name 7) (gName_mo 7) (by decide) (fun _ _ _ _ _ => (pg_name (i := 7) sc_cut.nd rfl (Or.inl rfl))) (fun _ _ _ _ _ => (ptsd_one (ptd_ne hr (ped_at (fun _ _ => rfl) (ped_var 7) (ped_var 3)) ped_int))) (fun _ _ _ _ _ => (ped_var 7)) s0 (sw_true rfl rfl rfl (by decide +kernel)))
    (psd_one (psd_if (ptd_neNil hr (ped_var 4) (ped_lst pad_nil)) (psd_cons (psd_set (i := 5) (ped_at (fun _ _ => rfl) (ped_var 4) ped_int) sc_cut.nd)
    (psd_cons (psd_app (i := 1) (ped_var 5))
    (psd_cons (psd_setLcF (i := 6) (own := [("_law_row", 7)]) sc_cut.nd (pid_list (ped_var 2)) (blkOk_by (own := [("_law_row", 7)]) (N := N_cut) (sc := defScope s_cut) (by decide +kernel)) (gds_name 7) (gName_mo 7) (by decide) (fun _ _ _ _ _ => (pg_name (i := 7) sc_cut.nd rfl (Or.inl rfl))) (fun _ _ _ _ _ => (ptsd_one (ptd_eq hr (ped_at (fun _ _ => rfl) (ped_var 7) (ped_var 3)) ped_int))) (fun _ _ _ _ _ => (ped_var 7)) s0 (sw_true rfl rfl rfl (by decide +kernel)))
    (psd_cons (psd_for (pid_list (ped_slice (ped_var 4) (pod_some ped_int) pod_none)) (pg_name (i := 7) sc_cut.nd rfl (Or.inl rfl)) (gd_name 7) (gName_mo 7)
    (psd_one (psd_app (i := 6) (ped_f ((ok_lessG T).up (by decide)) hr hG (pad_cons (ped_var 7) (pad_cons (ped_at (fun _ _ => rfl) (ped_var 5) (ped_var 3)) (pad_cons (ped_var 5) (pad_cons (ped_at (fun _ _ => rfl) (ped_var 7) (ped_var 3)) pad_nil))))))))
    (psd_one (psd_give (i := 6) (j := 2) hw sc_cut.nd)))))) psd_nil))))
    (psd_one (psd_retOwn 1 hw)))), ?_⟩
    have kle : ∀ c, c ≤ m → kG e c ≤ 400000 := fun c hc => by
      have a := kG_is e c
      have b := Nat.mul_le_mul_left (e + 1) (Nat.pow_le_pow_right (n := 2) (by decide) hc)
      omega
    refine ⟨by show 0 ≤ sizeLine; decide, _, rfl, ?_⟩
    refine ⟨_, rfl, ?_⟩
    refine lcD_mapM rwD lstD G (by omega) (fun g hg R hR => ⟨_, rfl, _, _, rfl, rfl, hR⟩) ?_
    refine ⟨_, rfl, by show 0 ≤ sizeLine; decide, G.map rwD, rfl, rfl, _, rfl, ?_⟩
    by_cases hG0 : G = []
    · subst hG0
      refine (if_neg (by decide)).mpr ⟨0, rfl, by decide, by decide, ?_⟩
      exact ⟨[], rfl, q [] [] ⟨fun _ h => absurd h List.not_mem_nil, .nil, fun _ h => absurd h List.not_mem_nil, fun _ h => absurd h List.not_mem_nil, fun _ h => absurd h List.not_mem_nil, fun _ h => absurd h List.not_mem_nil, fun _ h => absurd h List.not_mem_nil⟩⟩
    · obtain ⟨g0, G', rfl⟩ : ∃ g0 G', G = g0 :: G' := by
        cases G with
        | nil => exact absurd rfl hG0
        | cons g0 G' => exact ⟨g0, G', rfl⟩
      have l0 : g0.length = m := hlen g0 List.mem_cons_self
      refine (if_pos rfl).mpr ⟨_, rfl, rwD g0, L2.atI_nat (j := 0) rfl, _, rfl, .inl ⟨_, rfl, (m : Nat), by rw [List.length_map, l0], by omega, by omega, ?_⟩⟩
      refine forD_run (fun c r => ∃ (found rest : List (List Int)) (r3 r4 r5 r6 r7 : Sl), r = [.dat (.lst ((g0 :: G').map rwD)), .own (found.map lstD), .dat (.lst (rest.map lstD)), r3, r4, r5, r6, r7] ∧ CutG m e c (g0 :: G') found rest ∧ found.length + rest.length ≤ 40)
        ⟨[], g0 :: G', _, _, _, _, _, rfl, CutG.start hlen hsm, by rw [List.length_nil]; omega⟩ ?_ ?_
      · rintro r ⟨found, rest, r3, r4, r5, r6, r7, rfl, h, _⟩
        rw [rngD_len, Int.toNat_natCast] at h
        exact ⟨_, rfl, q found rest h⟩
      · rintro c d r nx hd ⟨found, rest, r3, r4, r5, r6, r7, rfl, h, hcnt⟩ kk
        have hc : c < m := by
          have := (List.getElem?_eq_some_iff.mp hd).1
          rwa [rngD_len, Int.toNat_natCast] at this
        rw [Int.toNat_natCast, rngD_at hc] at hd
        cases hd
        have lenr : ∀ x ∈ rest, x.length = m := fun x hx => h.len x (List.mem_append_right _ hx)
        refine ⟨_, rfl, _, rfl, ?_⟩
        refine lcD_selM lstD (nzB c) lstD rest (by omega) (fun x hx P1 hy hn => ?_) ?_
        · refine ⟨_, rfl, _, rfl, .int (co x c), row_at (by rw [lenr x hx]; exact hc), shp_int _, shp_int _, _, rfl, ?_⟩
          have b1 : (if true = true then !eqd (.int (co x c)) (.int 0) else eqd (.int (co x c)) (.int 0)) = nzB c x := by
            rw [if_pos rfl, eqd_int]
            unfold nzB
            rw [Bool.eq_iff_iff, decide_eq_true_eq]
            simp
          rw [b1]
          cases e : nzB c x with
          | true => exact (if_pos rfl).mpr ⟨_, rfl, hy e⟩
          | false => exact (if_neg Bool.false_ne_true).mpr (hn e)
        refine ⟨_, rfl, by show 0 ≤ sizeLine; decide, _, rfl, rfl, _, rfl, ?_⟩
        have ft : (rest.filter (nzB c)).length + (rest.filter fun x => !nzB c x).length = rest.length := by
          clear h lenr hcnt
          induction rest with
          | nil => rfl
          | cons x L ih =>
            rw [List.filter_cons, List.filter_cons]
            cases nzB c x
            · simp only [Bool.not_false, if_true, Bool.false_eq_true, if_false, List.length_cons]; omega
            · simp only [Bool.not_true, if_true, Bool.false_eq_true, if_false, List.length_cons]; omega
        cases he : rest.filter (nzB c) with
        | nil =>
          refine (if_neg (by decide)).mpr (kk _ ⟨found, rest, _, _, _, _, _, rfl, h.skip fun x hx => ?_, hcnt⟩)
          by_cases z : co x c = 0
          · exact z
          · have : x ∈ rest.filter (nzB c) := List.mem_filter.mpr ⟨hx, decide_eq_true z⟩
            rw [he] at this
            exact absurd this List.not_mem_nil
        | cons lead os =>
          have nxt := h.next he
          rw [he, List.length_cons] at ft
          refine (if_pos rfl).mpr ⟨_, rfl, lstD lead, L2.atI_nat (j := 0) rfl, ?_⟩
          refine ⟨_, rfl, _, rfl, by rw [List.length_map, sizeLine_eq]; omega, ?_⟩
          refine ⟨_, rfl, ?_⟩
          refine ⟨_, rfl, ?_⟩
          refine lcK_sel lstD (fun x => !nzB c x) lstD rest [] (by show 0 + _ ≤ _; omega) (fun x hx Y Z hy hz => ?_) ?_
          · refine ⟨_, rfl, _, rfl, .int (co x c), row_at (by rw [lenr x hx]; exact hc), shp_int _, shp_int _, _, rfl, ?_⟩
            have b2 : (if false = true then !eqd (.int (co x c)) (.int 0) else eqd (.int (co x c)) (.int 0)) = !nzB c x := by
              rw [if_neg Bool.false_ne_true, eqd_int]
              unfold nzB
              rw [Bool.eq_iff_iff]
              simp
            rw [b2]
            cases e : !nzB c x with
            | true => exact (if_pos rfl).mpr ⟨_, rfl, hy e⟩
            | false => exact (if_neg Bool.false_ne_true).mpr (hz e)
          rw [List.nil_append]
          have c1 : Pd.cutD ((lead :: os).map lstD) (some (1 : Int)) none = os.map lstD := by
            rw [show (some (1 : Int)) = some ((1 : Nat) : Int) from rfl, cutD_from _ (by rw [List.length_map, List.length_cons]; omega)]
            rfl
          have smr : ∀ x ∈ lead :: os, El.Sm 400000 x ∧ x.length = m := fun x hx => by
            rw [← he] at hx
            have hx2 := (List.mem_filter.mp hx).1
            exact ⟨(h.sm x (List.mem_append_right _ hx2)).up (kle c (by omega)), lenr x hx2⟩
          refine ⟨_, rfl, _, rfl, _, rfl, ?_⟩
          rw [c1]
          refine forD_run (fun i r => ∃ r7, r = [.dat (.lst ((g0 :: G').map rwD)), .own (found.map lstD ++ [lstD lead]), .dat (.lst (rest.map lstD)), .dat (.int (c : Nat)), .dat (.lst ((lead :: os).map lstD)), .dat (lstD lead), .own (((rest.filter fun x => !nzB c x) ++ (os.take i).map fun x => crossL lead x lead c).map lstD), r7]) ⟨r7, ?_⟩ ?_ ?_
          · rw [List.take_zero, List.map_nil, List.append_nil]; rfl
          · rintro r ⟨r7, rfl⟩
            have em : found.map lstD ++ [lstD lead] = (found ++ [lead]).map lstD := by rw [List.map_append]; rfl
            rw [List.length_map, List.take_length, em]
            refine ⟨_, rfl, kk _ ⟨_, _, _, _, _, _, _, rfl, nxt, ?_⟩⟩
            rw [List.length_append, List.length_append, List.length_map, List.length_singleton]; omega
          · rintro i d r nx2 hd ⟨r7, rfl⟩ k2
            rw [List.getElem?_map] at hd
            obtain ⟨x, hx, rfl⟩ := Option.map_eq_some_iff.mp hd
            have mx := List.mem_of_getElem? hx
            obtain ⟨sx, lx⟩ := smr x (List.mem_cons_of_mem _ mx)
            obtain ⟨sl, ll⟩ := smr lead List.mem_cons_self
            refine ⟨_, rfl, _, rfl, _, rfl, _, rfl, .int (co lead c), row_at (by omega), _, rfl, _, rfl, _, rfl, .int (co x c), row_at (by omega), x, lead, _, _, rfl, by omega, by omega, fun a ha => ?_, fun a ha => ?_, ?_, k2 _ ⟨.dat (lstD x), ?_⟩⟩
            · obtain ⟨p, hp, rfl⟩ := List.mem_iff_getElem.mp ha
              rw [← co_at hp]
              exact mulA (sl c) (sx p) (by decide)
            · obtain ⟨p, hp, rfl⟩ := List.mem_iff_getElem.mp ha
              rw [← co_at hp]
              exact mulA (sx c) (sl p) (by decide)
            · rw [List.length_map, List.length_append, List.length_map, List.length_take, sizeLine_eq]; omega
            · have et : os.take (i + 1) = os.take i ++ [x] := by rw [List.take_add_one, hx]; rfl
              have eq : ((rest.filter fun x => !nzB c x) ++ (os.take (i + 1)).map fun x => crossL lead x lead c).map lstD = ((rest.filter fun x => !nzB c x) ++ (os.take i).map fun x => crossL lead x lead c).map lstD ++ [lstD (crossL lead x lead c)] := by
                rw [et, List.map_append (l₁ := os.take i), ← List.append_assoc, List.map_append (f := lstD) (l₂ := List.map _ [x])]
                rfl
              rw [eq]
              rfl
theorem ok_rank (T : Txt K mg) : Calld P wd K mg base 3 "_law_rank" ["_law_rows"] pLRank := by
  refine defC T.d_rank sc_rank ?_ pLRank_mo ?_
  · rintro ds Q ⟨m, e, G, rfl, _⟩
    rfl
  · rintro f cdv A outer s0 H E w ds Q hr hG ⟨m, e, G, rfl, hm, hn, hl, hs, he, q⟩
    refine ⟨_, (psd_one (psd_ret (ped_len T.m_len (pad_cons (ped_f ((ok_cut T).up (by decide)) hr hG (pad_cons (ped_var 0) pad_nil)) pad_nil)))), ?_⟩
    refine ⟨_, rfl, m, e, G, rfl, hm, hn, hl, hs, he, fun found rest h => ⟨_, rfl, .inl ⟨_, rfl, ?_⟩⟩⟩
    rw [List.length_map]
    exact q _ h.rank
theorem ok_is_held (T : Txt K mg) : Calld P wd K mg base 4 "_law_is_held" ["_law_rows", "_law_row"] pLHeld := by
  refine defC T.d_is_held sc_is_held ?_ pLHeld_mo ?_
  · rintro ds Q ⟨m, e, G, x, rfl, _⟩
    rfl
  · rintro f cdv A outer s0 H E w ds Q hr hG ⟨m, e, G, x, rfl, hm, hn, hl, hx, hs, hsx, he, q⟩
    refine ⟨_, (psd_one (psd_ret (ped_eq hr (ped_f ((ok_rank T).up (by decide)) hr hG (pad_cons (ped_add (ped_var 0) (ped_lst (pad_cons (ped_var 1) pad_nil))) pad_nil)) (ped_f ((ok_rank T).up (by decide)) hr hG (pad_cons (ped_var 0) pad_nil))))), ?_⟩
    have em : G.map rwD ++ [rwD x] = (G ++ [x]).map rwD := by rw [List.map_append]; rfl
    refine ⟨_, rfl, _, rfl, by show 1 ≤ sizeLine; decide, by rw [List.length_map, sizeLine_eq]; show _ + 1 ≤ _; omega, ?_⟩
    rw [em]
    refine ⟨m, e, G ++ [x], rfl, hm, by rw [List.length_append, List.length_singleton]; omega, fun g hg => ?_, fun g hg => ?_, he, fun n2 h2 => ?_⟩
    · rcases List.mem_append.mp hg with z | z
      · exact hl g z
      · rw [List.mem_singleton.mp z]; exact hx
    · rcases List.mem_append.mp hg with z | z
      · exact hs g z
      · rw [List.mem_singleton.mp z]; exact hsx
    refine ⟨_, rfl, m, e, G, rfl, hm, by omega, hl, hs, he, fun n1 h1 => ⟨shp_int _, shp_int _, q _ ?_⟩⟩
    rw [List.map_append] at h2
    rw [← h1.held h2, if_neg Bool.false_ne_true, eqd_int, beq_iff_eq]
    omega
theorem ok_steps (T : Txt K mg) : Calld P wd K mg base 2 "_law_steps" ["_law_rows"] pLSteps := by
  refine defC T.d_steps sc_steps ?_ pLSteps_mo ?_
  · rintro ds Q ⟨m, G, rfl, _⟩
    rfl
  · rintro f cdv A outer s0 H E w ds Q hr hG ⟨m, G, rfl, hm, hn, hl, hs, q⟩
    refine ⟨_, (psd_cons (psd_par (i := 1) (j := 2) (ped_lst pad_nil) (ped_lc (own := [("_law_row", 9)]) sc_steps.nd (pid_list (ped_var 0)) (blkOk_by (own := [("_law_row", 9)]) (N := N_steps) (sc := defScope s_steps) (by decide +kernel)) (gd_name 9) (gName_mo 9) (by decide) (fun _ _ _ _ _ => (pg_name (i := 9) sc_steps.nd rfl (Or.inl rfl))) (fun _ _ _ _ _ => ptsd_nil) (fun _ _ _ _ _ => (ped_lstF T.m_list (pad_cons (ped_var 9) pad_nil))) s0) sc_steps.nd)
    (psd_cons (psd_for (pid_range T.m_range (ped_ifExp (ptd_neNil hr (ped_var 0) (ped_lst pad_nil)) (ped_len T.m_len (pad_cons (ped_at (fun _ _ => rfl) (ped_var 0) ped_int) pad_nil)) ped_int)) (pg_name (i := 3) sc_steps.nd rfl (Or.inr rfl)) (gd_name 3) (gName_mo 3)
    (psd_cons (psd_setLc (i := 4) (own := [("_law_row", 9)]) sc_steps.nd (pid_list (ped_var 2)) (blkOk_by (own := [("_law_row", 9)]) (N := N_steps) (sc := defScope s_steps) (by decide +kernel)) (gd_name 9) (gName_mo 9) (by decide) (fun _ _ _ _ _ => (pg_name (i := 9) sc_steps.nd rfl (Or.inl rfl))) (fun _ _ _ _ _ => (ptsd_one (ptd_ne hr (ped_at (fun _ _ => rfl) (ped_var 9) (ped_var 3)) ped_int))) (fun _ _ _ _ _ => (ped_var 9)) s0 (sw_true rfl rfl rfl (by decide +kernel)))
    (psd_cons (psd_setLc (i := 2) (own := [("_law_row", 9)]) sc_steps.nd (pid_list (ped_var 2)) (blkOk_by (own := [("_law_row", 9)]) (N := N_steps) (sc := defScope s_steps) (by decide +kernel)) (gd_name 9) (gName_mo 9) (by decide) (fun _ _ _ _ _ => (pg_name (i := 9) sc_steps.nd rfl (Or.inl rfl))) (fun _ _ _ _ _ => (ptsd_one (ptd_eq hr (ped_at (fun _ _ => rfl) (ped_var 9) (ped_var 3)) ped_int))) (fun _ _ _ _ _ => (ped_var 9)) s0 (sw_true rfl rfl rfl (by decide +kernel)))
    (psd_cons (psd_while (ptd_gt (ped_len T.m_len (pad_cons (ped_var 4) pad_nil)) ped_int) (psd_cons (psd_setLc (i := 5) (own := [("_law_row", 9)]) sc_steps.nd (pid_list (ped_var 4)) (blkOk_by (own := [("_law_row", 9)]) (N := N_steps) (sc := defScope s_steps) (by decide +kernel)) (gd_name 9) (gName_mo 9) (by decide) (fun _ _ _ _ _ => (pg_name (i := 9) sc_steps.nd rfl (Or.inl rfl))) (fun _ _ _ _ _ => ptsd_nil) (fun _ _ _ _ _ => (ped_abs T.m_abs (pad_cons (ped_at (fun _ _ => rfl) (ped_var 9) (ped_var 3)) pad_nil))) s0 (sw_true rfl rfl rfl (by decide +kernel)))
    (psd_cons (psd_set (i := 6) (ped_indexI (ped_var 5) (ped_minL T.m_min (pad_cons (ped_var 5) pad_nil))) sc_steps.nd)
    (psd_cons (psd_par (i := 7) (j := 8) (ped_at (fun _ _ => rfl) (ped_var 4) (ped_var 6)) (ped_add (ped_slice (ped_var 4) pod_none (pod_some (ped_var 6))) (ped_slice (ped_var 4) (pod_some (ped_add (ped_var 6) ped_int)) pod_none)) sc_steps.nd)
    (psd_cons (psd_set (i := 4) (ped_lst (pad_cons (ped_var 7) pad_nil)) sc_steps.nd)
    (psd_one (psd_for (pid_list (ped_var 8)) (pg_name (i := 9) sc_steps.nd rfl (Or.inl rfl)) (gd_name 9) (gName_mo 9)
    (psd_cons (psd_set (i := 10) (ped_f ((ok_less T).up (by decide)) hr hG (pad_cons (ped_var 9) (pad_cons ped_int (pad_cons (ped_var 7) (pad_cons (ped_fdivZ (ped_at (fun _ _ => rfl) (ped_var 9) (ped_var 3)) (ped_at (fun _ _ => rfl) (ped_var 7) (ped_var 3))) pad_nil))))) sc_steps.nd)
    (psd_cons (psd_set (i := 4) (ped_add (ped_var 4) (ped_rep (ped_lst (pad_cons (ped_var 10) pad_nil)) (ped_intF T.m_int (pad_cons (ped_ne hr (ped_at (fun _ _ => rfl) (ped_var 10) (ped_var 3)) ped_int) pad_nil)))) sc_steps.nd)
    (psd_one (psd_set (i := 2) (ped_add (ped_var 2) (ped_rep (ped_lst (pad_cons (ped_var 10) pad_nil)) (ped_intF T.m_int (pad_cons (ped_eq hr (ped_at (fun _ _ => rfl) (ped_var 10) (ped_var 3)) ped_int) pad_nil)))) sc_steps.nd)))))))))))
    (psd_one (psd_set (i := 1) (ped_add (ped_var 1) (ped_var 4)) sc_steps.nd))))))
    (psd_one (psd_ret (ped_var 1))))), ?_⟩
    refine ⟨by show 0 ≤ sizeLine; decide, _, rfl, _, rfl, ?_⟩
    refine lcD_mapM rwD lstD G (by omega) (fun g hg R hR => ⟨_, rfl, _, _, rfl, rfl, hR⟩) ?_
    refine ⟨_, rfl, by show 0 ≤ sizeLine; decide, G.map rwD, rfl, rfl, _, rfl, ?_⟩
    by_cases hG0 : G = []
    · subst hG0
      refine (if_neg (by decide)).mpr ⟨0, rfl, by decide, by decide, ?_⟩
      refine ⟨_, rfl, q [] ⟨fun _ h => absurd h List.not_mem_nil, .nil, fun _ h => absurd h List.not_mem_nil, fun _ h => absurd h List.not_mem_nil, fun _ h => absurd h List.not_mem_nil, fun _ h => absurd h List.not_mem_nil⟩⟩
    · obtain ⟨g0, G', rfl⟩ : ∃ g0 G', G = g0 :: G' := by
        cases G with
        | nil => exact absurd rfl hG0
        | cons g0 G' => exact ⟨g0, G', rfl⟩
      have l0 : g0.length = m := hl g0 List.mem_cons_self
      refine (if_pos rfl).mpr ⟨_, rfl, rwD g0, L2.atI_nat (j := 0) rfl, _, rfl, .inl ⟨_, rfl, (m : Nat), by rw [List.length_map, l0], by omega, by omega, ?_⟩⟩
      refine forD_run (fun c r => ∃ (found rest : List (List Int)) (r3 r4 r5 r6 r7 r8 r9 r10 : Sl), r = [.dat (.lst ((g0 :: G').map rwD)), .dat (.lst (found.map lstD)), .dat (.lst (rest.map lstD)), r3, r4, r5, r6, r7, r8, r9, r10] ∧ Cols m c (g0 :: G') found rest ∧ found.length + rest.length ≤ 40)
        ⟨[], g0 :: G', _, _, _, _, _, _, _, _, rfl, Cols.start hl hs, by rw [List.length_nil]; omega⟩ ?_ ?_
      · rintro r ⟨found, rest, r3, r4, r5, r6, r7, r8, r9, r10, rfl, h, _⟩
        rw [rngD_len, Int.toNat_natCast] at h
        exact ⟨_, rfl, q found (h.done hm)⟩
      · rintro c d r nx hd ⟨found, rest, r3, r4, r5, r6, r7, r8, r9, r10, rfl, h, hcnt⟩ kk
        have hc : c < m := by
          have := (List.getElem?_eq_some_iff.mp hd).1
          rwa [rngD_len, Int.toNat_natCast] at this
        rw [Int.toNat_natCast, rngD_at hc] at hd
        cases hd
        have lenr : ∀ x ∈ rest, x.length = m := fun x hx => h.up.len x (List.mem_append_right _ hx)
        refine ⟨_, rfl, _, rfl, ?_⟩
        refine lcD_selM lstD (nzB c) lstD rest (by omega) (fun x hx P1 hy hn => ?_) ?_
        · refine ⟨_, rfl, _, rfl, .int (co x c), row_at (by rw [lenr x hx]; exact hc), shp_int _, shp_int _, _, rfl, ?_⟩
          have b1 : (if true = true then !eqd (.int (co x c)) (.int 0) else eqd (.int (co x c)) (.int 0)) = nzB c x := by
            rw [if_pos rfl, eqd_int]
            unfold nzB
            rw [Bool.eq_iff_iff, decide_eq_true_eq]
            simp
          rw [b1]
          cases e : nzB c x with
          | true => exact (if_pos rfl).mpr ⟨_, rfl, hy e⟩
          | false => exact (if_neg Bool.false_ne_true).mpr (hn e)
        refine ⟨_, rfl, _, rfl, ?_⟩
        refine lcD_selM lstD (fun x => !nzB c x) lstD rest (by omega) (fun x hx P1 hy hn => ?_) ?_
        · refine ⟨_, rfl, _, rfl, .int (co x c), row_at (by rw [lenr x hx]; exact hc), shp_int _, shp_int _, _, rfl, ?_⟩
          have b2 : (if false = true then !eqd (.int (co x c)) (.int 0) else eqd (.int (co x c)) (.int 0)) = !nzB c x := by
            rw [if_neg Bool.false_ne_true, eqd_int]
            unfold nzB
            rw [Bool.eq_iff_iff]
            simp
          rw [b2]
          cases e : !nzB c x with
          | true => exact (if_pos rfl).mpr ⟨_, rfl, hy e⟩
          | false => exact (if_neg Bool.false_ne_true).mpr (hn e)
        have ft := filter_two (nzB c) rest
        refine ⟨fun n r => ∃ (some rest' : List (List Int)) (r5 r6 r7 r8 r9 r10 : Sl), r = [.dat (.lst ((g0 :: G').map rwD)), .dat (.lst (found.map lstD)), .dat (.lst (rest'.map lstD)), .dat (.int (c : Nat)), .dat (.lst (some.map lstD)), r5, r6, r7, r8, r9, r10] ∧ Turn m c ((g0 :: G').map co) found some rest' ∧ n = szs c some ∧ some.length + rest'.length = rest.length, ⟨_, _, _, _, _, _, _, _, _, rfl, Turn.start h.up h.sr, rfl, ft⟩, ?_⟩
        rintro n r ⟨some, rest', r5, r6, r7, r8, r9, r10, rfl, t, rfl, cnt⟩
        refine ⟨_, rfl, _, rfl, .inl ⟨_, rfl, _, rfl, ite2 (fun h2 => ?_) (fun h2 => ?_)⟩⟩
        · have h2 := of_decide_eq_true h2
          rw [List.length_map] at h2
          intro nx2 hnx2
          refine law_turn t (by omega) hm hc (by omega) fun some2 rest2 r5 r6 r7 r8 r9 r10 t2 dec cnt2 => hnx2 _ ⟨_, dec, some2, rest2, r5, r6, r7, r8, r9, r10, rfl, t2, rfl, by omega⟩
        · have h1 : some.length ≤ 1 := by
            by_cases z : some.length ≤ 1
            · exact z
            · exact absurd (decide_eq_true (by rw [List.length_map]; omega)) h2
          refine ⟨_, rfl, _, rfl, by rw [List.length_map, List.length_map, sizeLine_eq]; omega, ?_⟩
          rw [← List.map_append]
          exact kk _ ⟨found ++ some, rest', _, _, _, _, _, _, _, _, rfl, Cols.next h.sf h.pv (by omega) t h1, by rw [List.length_append]; omega⟩
/-- by few small rows -/
theorem ok_is_madeS (T : Txt K mg) : Calld P wd K mg base 3 "_law_is_made" ["_law_rows", "_law_row"] (fun ds Q => ∃ (m : Nat) (G : List (List Int)) (row : List Int), ds = [.lst (G.map rwD), rwD row] ∧ m ≤ 6 ∧ G.length ≤ 40 ∧ (∀ g ∈ G, g.length = m) ∧ (∀ g ∈ G, ∀ i, (co g i).natAbs ≤ 30) ∧ row.length = m ∧ Sm 1000 row ∧ ∀ b : Bool, (b = true ↔ Lat (G.map co) (co row)) → Q (.bl b)) := by
  refine defC T.d_is_made sc_is_made ?_ (fun _ _ _ q ⟨m, G, row, h1, h2, h3, h4, h5, h6, h7, z⟩ => ⟨m, G, row, h1, h2, h3, h4, h5, h6, h7, fun b h => q _ (z b h)⟩) ?_
  · rintro ds Q ⟨m, G, row, rfl, _⟩
    rfl
  · rintro f cdv A outer s0 H E w ds Q hr hG ⟨m, G, row, rfl, hm, hn, hl, hs, hrow, hsm, q⟩
    refine ⟨_, (psd_cons (psd_set (i := 2) (ped_lstF T.m_list (pad_cons (ped_var 1) pad_nil)) sc_is_made.nd)
    (psd_cons (psd_for (pid_list (ped_f ((ok_steps T).up (by decide)) hr hG (pad_cons (ped_var 0) pad_nil))) (pg_name (i := 3) sc_is_made.nd rfl (Or.inr rfl)) (gd_name 3) (gName_mo 3)
    (psd_cons (psd_set (i := 4) (ped_at (fun _ _ => rfl) (ped_lc (own := [("_law_k", 5)]) sc_is_made.nd (pid_range T.m_range (ped_len T.m_len (pad_cons (ped_var 3) pad_nil))) (blkOk_by (own := [("_law_k", 5)]) (N := N_is_made) (sc := defScope s_is_made) (by decide +kernel)) (gd_name 5) (gName_mo 5) (by decide) (fun _ _ _ _ _ => (pg_name (i := 5) sc_is_made.nd rfl (Or.inl rfl))) (fun _ _ _ _ _ => (ptsd_one (ptd_ne hr (ped_at (fun _ _ => rfl) (ped_var 3) (ped_var 5)) ped_int))) (fun _ _ _ _ _ => (ped_var 5)) s0) ped_int) sc_is_made.nd)
    (psd_one (psd_set (i := 2) (ped_f ((ok_less T).up (by decide)) hr hG (pad_cons (ped_var 2) (pad_cons ped_int (pad_cons (ped_var 3) (pad_cons (ped_fdivZ (ped_at (fun _ _ => rfl) (ped_var 2) (ped_var 4)) (ped_at (fun _ _ => rfl) (ped_var 3) (ped_var 4))) pad_nil))))) sc_is_made.nd))))
    (psd_one (psd_ret (ped_eqNil hr (ped_lc (own := [("_law_part", 6)]) sc_is_made.nd (pid_list (ped_var 2)) (blkOk_by (own := [("_law_part", 6)]) (N := N_is_made) (sc := defScope s_is_made) (by decide +kernel)) (gd_name 6) (gName_mo 6) (by decide) (fun _ _ _ _ _ => (pg_name (i := 6) sc_is_made.nd rfl (Or.inl rfl))) (fun _ _ _ _ _ => (ptsd_one (ptd_ne hr (ped_var 6) ped_int))) (fun _ _ _ _ _ => (ped_var 6)) s0) (ped_lst pad_nil)))))), ?_⟩
    refine ⟨_, rfl, _, _, rfl, rfl, ?_⟩
    refine ⟨_, rfl, m, G, rfl, hm, hn, hl, hs, fun ms L => ⟨_, rfl, ?_⟩⟩
    have hc : ms.length ≤ 6 := by
      have := ech_count (m := m) L.ech (fun s hs i hi => by obtain ⟨x, hx, rfl⟩ := List.mem_map.mp hs; exact co_out (by rw [L.len x hx]; exact hi)) (Nat.zero_le _)
      rw [List.length_map] at this
      omega
    refine forD_run (fun i r => ∃ (l : List Int) (s3 s4 s5 s6 : Sl), r = [.dat (.lst (G.map rwD)), .dat (rwD row), .dat (lstD l), s3, s4, s5, s6] ∧ RestZ m (ms.take i) row l ∧ Sm (1000 + i * 24576) l) ⟨row, _, _, _, _, rfl, RestZ.start hrow, hsm.up (by omega)⟩ ?_ ?_
    · rintro r ⟨l, s3, s4, s5, s6, rfl, h, sm⟩
      rw [List.length_map, List.take_length] at h
      refine ⟨_, rfl, _, rfl, ?_⟩
      refine lcD_selM Da.int (fun x => decide (x ≠ 0)) Da.int l (by have := h.len; omega) (fun x hx P1 hy hn => ?_) ?_
      · refine ⟨_, rfl, shp_int _, shp_int _, _, rfl, ?_⟩
        have b1 : (if true = true then !eqd (.int x) (.int 0) else eqd (.int x) (.int 0)) = decide (x ≠ 0) := by
          rw [if_pos rfl, eqd_int]
          rw [Bool.eq_iff_iff, decide_eq_true_eq]
          simp
        rw [b1]
        cases e : decide (x ≠ 0) with
        | true => exact (if_pos rfl).mpr ⟨_, rfl, hy e⟩
        | false => exact (if_neg Bool.false_ne_true).mpr (hn e)
      refine ⟨by show 0 ≤ sizeLine; decide, _, rfl, rfl, q _ ?_⟩
      rw [if_neg Bool.false_ne_true, List.isEmpty_map, List.isEmpty_iff, List.filter_eq_nil_iff, ← h.nought L]
      constructor
      · intro z i
        by_cases hi : i < l.length
        · have := z _ (co_mem hi)
          simpa using this
        · exact co_out (by omega)
      · intro z x hx
        obtain ⟨j, hj, rfl⟩ := List.mem_iff_getElem.mp hx
        rw [← co_at hj, z j]
        decide
    · rintro i d r nx hd ⟨l, s3, s4, s5, s6, rfl, h, sm⟩ k
      rw [List.getElem?_map] at hd
      obtain ⟨s, hs', rfl⟩ := Option.map_eq_some_iff.mp hd
      have mem := List.mem_of_getElem? hs'
      have hi : i < ms.length := (List.getElem?_eq_some_iff.mp hs').1
      have ls := L.len s mem
      have ll := h.len
      obtain ⟨p, fp, _⟩ := L.ech.has (co s) (List.mem_map_of_mem mem)
      obtain ⟨ep, lp⟩ := fpL_of fp
      refine ⟨_, rfl, _, rfl, .inl ⟨_, rfl, (s.length : Nat), by rw [List.length_map], by omega, by omega, ?_⟩⟩
      refine lcD_rngS s.length (fun k => decide (co s k ≠ 0)) (fun k => Da.int (k : Nat)) (by omega) (fun k hk P1 hy hn => ?_) ?_
      · refine ⟨_, rfl, _, rfl, .int (co s k), row_at hk, shp_int _, shp_int _, _, rfl, ?_⟩
        have b1 : (if true = true then !eqd (.int (co s k)) (.int 0) else eqd (.int (co s k)) (.int 0)) = decide (co s k ≠ 0) := by
          rw [if_pos rfl, eqd_int]
          rw [Bool.eq_iff_iff, decide_eq_true_eq]
          simp
        rw [b1]
        cases e : decide (co s k ≠ 0) with
        | true => exact (if_pos rfl).mpr ⟨_, rfl, hy e⟩
        | false => exact (if_neg Bool.false_ne_true).mpr (hn e)
      refine ⟨.int (p : Nat), ?_, ?_⟩
      · refine L2.atI_nat (j := 0) ?_
        rw [List.getElem?_map, places fp lp]; rfl
      have pv : (co s p).natAbs.log2 < 9000 := Nat.lt_trans (log_pow (e := 6144) (Nat.lt_of_le_of_lt (L.pv s mem p fp) (Nat.pow_lt_pow_right (by decide) (by decide))) (by decide)) (by decide)
      have q1 : ((co l p).fdiv (co s p)).natAbs < 2 ^ (1000 + i * 24576) := Nat.lt_of_le_of_lt (fdiv_abs fp.nz) (sm p)
      refine ⟨_, rfl, _, rfl, _, rfl, _, rfl, .int (co l p), row_at (by omega), _, rfl, _, rfl, .int (co s p), row_at lp, ⟨fp.nz, .inl pv⟩, l, s, _, rfl, by omega, by omega, fun a ha => ?_, fun a ha => ?_, k _ ⟨lessL l s p, _, _, _, _, rfl, ?_, ?_⟩⟩
      · obtain ⟨j, hj, rfl⟩ := List.mem_iff_getElem.mp ha
        rw [← co_at hj]
        exact mulA (a := 1) (e := 1) (by decide) (sm j) (by omega)
      · obtain ⟨j, hj, rfl⟩ := List.mem_iff_getElem.mp ha
        rw [← co_at hj]
        exact mulA q1 (L.sm s mem j) (by omega)
      · have et : ms.take (i + 1) = ms.take i ++ [s] := by rw [List.take_add_one, hs']; rfl
        rw [et]
        refine h.snoc ls fp fun x hx => ?_
        have ed : ms = ms.take i ++ s :: ms.drop (i + 1) := by
          have h0 : ms[i] = s := by rw [List.getElem?_eq_getElem hi] at hs'; exact Option.some.inj hs'
          rw [← h0, ← List.drop_eq_getElem_cons hi, List.take_append_drop]
        have e2 := L.ech
        rw [ed, List.map_append, List.map_cons] at e2
        exact e2.before fp (co x) (List.mem_map_of_mem hx)
      · exact (lessZ_sm (by omega) sm (L.sm s mem) fp.nz).up (by omega)
theorem ok_some_rowsF (T : Txt K mg) : CalldF P wd K mg base 2 "_law_some_rows" ["_law_bag_here", "_law_many", "_law_top"] pSRows := by
  refine defF T.d_some_rows sc_some_rows ?_ pSRows_mo ?_
  · rintro ds Q ⟨m, t, rfl, _⟩
    rfl
  · rintro f cdv A outer s0 H E w ds Q hr hG hw ⟨m, top, rfl, hm, ht1, ht2, q⟩
    refine ⟨_, (psf_cons (psd_parFE (i := 3) (j := 4) (pfd_lst pad_nil) (ped_at (fun _ _ => rfl) (ped_lst (pad_cons (ped_f ((ok_take T).up (by decide)) hr hG (pad_cons (ped_var 0) (pad_cons ped_int pad_nil))) (pad_cons ped_int pad_nil))) (ped_intF T.m_int (pad_cons (ped_eq hr (ped_f ((ok_take T).up (by decide)) hr hG (pad_cons (ped_var 0) (pad_cons ped_int pad_nil))) ped_int) pad_nil))) sc_some_rows.nd)
    (psf_cons (psd_for (pid_range T.m_range (ped_var 4)) (pg_name (i := 5) sc_some_rows.nd rfl (Or.inl rfl)) (gd_name 5) (gName_mo 5)
    (psd_cons (psd_par (i := 6) (j := 7) (ped_f ((ok_take T).up (by decide)) hr hG (pad_cons (ped_var 0) (pad_cons ped_int pad_nil))) (ped_tupF T.m_tuple (pad_cons (ped_lc (own := [("_law_at", 8)]) sc_some_rows.nd (pid_range T.m_range (ped_var 1)) (blkOk_by (own := [("_law_at", 8)]) (N := N_some_rows) (sc := defScope s_some_rows) (by decide +kernel)) (gd_name 8) (gName_mo 8) (by decide) (fun _ _ _ _ _ => (pg_name (i := 8) sc_some_rows.nd rfl (Or.inl rfl))) (fun _ _ _ _ _ => ptsd_nil) (fun _ _ _ _ _ => (ped_sub (ped_f ((ok_take T).up (by decide)) hr hG (pad_cons (ped_var 0) (pad_cons (ped_add (ped_mul ped_int (ped_var 2)) ped_int) pad_nil))) (ped_var 2))) s0) pad_nil)) sc_some_rows.nd)
    (psd_cons (psd_if (ptd_open fun _ => (PWd.pt (pwd_and (ptd_eq hr (ped_var 6) ped_int) (pwd_and1 (ptd_neNil hr (ped_var 3) (ped_lst pad_nil)))))) (psd_one (psd_set (i := 7) (ped_open fun _ => (ped_f ((ok_mixture T).up (by decide)) hr hG (pad_cons (ped_var 3) (pad_cons (ped_lc (own := [("_law_one_here", 9)]) sc_some_rows.nd (pid_list (ped_var 3)) (blkOk_by (own := [("_law_one_here", 9)]) (N := N_some_rows) (sc := defScope s_some_rows) (by decide +kernel)) (gd_name 9) (gName_mo 9) (by decide) (fun _ _ _ _ _ => (pg_name (i := 9) sc_some_rows.nd rfl (Or.inl rfl))) (fun _ _ _ _ _ => ptsd_nil) (fun _ _ _ _ _ => (ped_sub (ped_f ((ok_take T).up (by decide)) hr hG (pad_cons (ped_var 0) (pad_cons ped_int pad_nil))) ped_int)) s0) (pad_cons (ped_var 1) pad_nil))))) sc_some_rows.nd)) psd_nil)
    (psd_cons (psd_if (ptd_eq hr (ped_var 6) ped_int) (psd_one (psd_set (i := 7) (ped_open fun _ => (ped_ifExp (ptd_neNil hr (ped_var 3) (ped_lst pad_nil)) (ped_at (fun _ _ => rfl) (ped_var 3) ped_int) (ped_repT (ped_tup (pad_cons ped_int pad_nil)) (ped_var 1)))) sc_some_rows.nd)) psd_nil)
    (psd_one (psd_if (ptd_lt (ped_maxL T.m_max (pad_cons (ped_add (ped_lst (pad_cons ped_int pad_nil)) (ped_lc (own := [("_law_part", 10)]) sc_some_rows.nd (pid_tup (ped_var 7)) (blkOk_by (own := [("_law_part", 10)]) (N := N_some_rows) (sc := defScope s_some_rows) (by decide +kernel)) (gd_name 10) (gName_mo 10) (by decide) (fun _ _ _ _ _ => (pg_name (i := 10) sc_some_rows.nd rfl (Or.inl rfl))) (fun _ _ _ _ _ => ptsd_nil) (fun _ _ _ _ _ => (ped_abs T.m_abs (pad_cons (ped_var 10) pad_nil))) s0)) pad_nil)) ped_int) (psd_one (psd_app (i := 3) (ped_var 7))) psd_nil))))))
    (psf_retOwn 3 hw))), ?_⟩
    refine ⟨by show 0 ≤ sizeLine; decide, _, rfl, _, rfl, by decide, by decide, fun a a0 a1 => ⟨by show 2 ≤ sizeLine; decide, _, rfl, _, rfl, by decide, by decide, fun b b0 b1 => ⟨shp_int _, shp_int _, .inr ⟨_, rfl, ?_⟩⟩⟩⟩
    obtain ⟨sz, hsz, sz8, hat⟩ : ∃ sz : Nat, sz ≤ 8 ∧ sz ≤ 8 ∧ L2.atI [Da.int a, Da.int 8] (if (if false = true then !eqd (Da.int b) (Da.int 0) else eqd (Da.int b) (Da.int 0)) = true then 1 else 0) = some (.int (sz : Nat)) := by
      by_cases c : (if false = true then !eqd (Da.int b) (Da.int 0) else eqd (Da.int b) (Da.int 0)) = true
      · rw [if_pos c]
        exact ⟨8, by decide, by decide, L2.atI_nat (j := 1) rfl⟩
      · rw [if_neg c]
        obtain ⟨n, rfl⟩ := Int.eq_ofNat_of_zero_le a0
        exact ⟨n, by omega, by omega, L2.atI_nat (j := 0) rfl⟩
    refine ⟨.int (sz : Nat), hat, ?_⟩
    refine ⟨_, rfl, (sz : Nat), rfl, by omega, by omega, ?_⟩
    refine forD_run (fun i r => ∃ (G : List (List Int)) (s5 s6 s7 s8 s9 s10 : Sl), r = [.dat .bag, .dat (.int (m : Nat)), .dat (.int top), .own (G.map rwD), .dat (.int (sz : Nat)), s5, s6, s7, s8, s9, s10] ∧ G.length ≤ i ∧ (∀ g ∈ G, g.length = m) ∧ ∀ g ∈ G, ∀ i, (co g i).natAbs ≤ 30) ⟨[], _, _, _, _, _, _, rfl, Nat.le_refl _, fun _ h => absurd h List.not_mem_nil, fun _ h => absurd h List.not_mem_nil⟩ ?_ ?_
    · rintro r ⟨G, s5, s6, s7, s8, s9, s10, rfl, h1, h2, h3⟩
      rw [rngD_len, Int.toNat_natCast] at h1
      exact ⟨_, rfl, q G ⟨by omega, h2, h3⟩⟩
    · rintro i d r nx hd ⟨G, s5, s6, s7, s8, s9, s10, rfl, h1, h2, h3⟩ k
      have hi : i < sz := by
        have := (List.getElem?_eq_some_iff.mp hd).1
        rwa [rngD_len, Int.toNat_natCast] at this
      refine ⟨_, rfl, _, rfl, by decide, by decide, fun wy w0 w1 => ?_⟩
      refine ⟨_, rfl, (m : Nat), rfl, by omega, by omega, ?_⟩
      refine lcD_all0 (fun _ y => ∃ z : Int, y = .int z ∧ z.natAbs ≤ 30) (rngD ((m : Nat) : Int).toNat) (by rw [rngD_len, Int.toNat_natCast]; omega) (fun d2 hd2 R hR => ?_) fun ys hy => ?_
      · refine ⟨_, rfl, _, rfl, .inl (.inr ⟨by omega, by omega⟩), _, rfl, by show (0 : Int) < 2 * top + 1; omega, log_small (by show (0 : Int) < 2 * top + 1; omega) (by show 2 * top + 1 ≤ _; omega), fun z z0 (z1 : z < 2 * top + 1) => ⟨_, rfl, True.intro, hR _ ⟨_, rfl, ?_⟩⟩⟩
        show (z - top).natAbs ≤ 30
        omega
      have ly : ys.length = m := by rw [(Paired.length hy).symm, rngD_len, Int.toNat_natCast]
      obtain ⟨x, rfl, hx⟩ := all_ints (F := fun z => z.natAbs ≤ 30) (ys := ys) fun y hy' => by
        obtain ⟨d, _, z⟩ := paired_right hy y hy'
        exact z
      rw [List.length_map] at ly
      refine ⟨_, rfl, .inl ⟨_, rfl, ?_⟩⟩
      have kk1 : ∀ (y : List Int) (r7 : Sl), y.length = m → (∀ i, (co y i).natAbs ≤ 30) → nx [.dat .bag, .dat (.int (m : Nat)), .dat (.int top), .own ((G ++ [y]).map rwD), .dat (.int (sz : Nat)), .dat d, .dat (.int wy), r7, s8, s9, s10] := fun y r7 ly hy => k _ ⟨G ++ [y], _, _, _, _, _, _, rfl, by rw [List.length_append, List.length_singleton]; omega, fun g hg => by
        rcases List.mem_append.mp hg with z | z
        · exact h2 g z
        · rw [List.mem_singleton.mp z]; exact ly, fun g hg => by
        rcases List.mem_append.mp hg with z | z
        · exact h3 g z
        · rw [List.mem_singleton.mp z]; exact hy⟩
      have kk2 : ∀ r7 : Sl, nx [.dat .bag, .dat (.int (m : Nat)), .dat (.int top), .own (G.map rwD), .dat (.int (sz : Nat)), .dat d, .dat (.int wy), r7, s8, s9, s10] := fun r7 => k _ ⟨G, _, _, _, _, _, _, rfl, by omega, h2, h3⟩
      have fin : ∀ y : List Int, y.length = m → srMid { nx := nx, rt := fun _ => False } [.dat .bag, .dat (.int (m : Nat)), .dat (.int top), .own (G.map rwD), .dat (.int (sz : Nat)), .dat d, .dat (.int wy), .dat (rwD y), s8, s9, s10] := fun y ly => sr_mid ly hm (by omega) h2 kk1 kk2
      refine ⟨_, rfl, shp_int _, shp_int _, _, rfl, ite2 (fun h => ?_) (fun h => ?_)⟩
      · refine ⟨_, rfl, by show 0 ≤ sizeLine; decide, G.map rwD, rfl, rfl, _, rfl, ite2 (fun h => ?_) (fun h => fin x ly)⟩
        refine ⟨_, rfl, _, rfl, _, rfl, ?_⟩
        refine lcD_all0 (fun _ y => ∃ z : Int, y = .int z ∧ z.natAbs < 2 ^ 2) (G.map rwD) (by rw [List.length_map]; omega) (fun d2 hd2 R hR => ⟨_, rfl, _, rfl, by decide, by decide, fun z z0 z1 => ⟨True.intro, hR _ ⟨_, rfl, ?_⟩⟩⟩) fun cs hcs => ?_
        · show (z - 2).natAbs < 4
          omega
        have lc : cs.length = G.length := by rw [(Paired.length hcs).symm, List.length_map]
        obtain ⟨c, rfl, hc⟩ := all_ints (F := fun z => z.natAbs < 2 ^ 2) (ys := cs) fun y hy' => by
          obtain ⟨d, _, z⟩ := paired_right hcs y hy'
          exact z
        rw [List.length_map] at lc
        exact ⟨_, rfl, m, 2, G, c, rfl, by omega, by omega, lc, h2, h3, El.Sm.of hc, by decide, fun r lr _ => ⟨noL_row r, fin r lr⟩⟩
      · exact (if_neg Bool.false_ne_true).mpr (fin x ly)
theorem ok_some_rows (T : Txt K mg) : Calld P wd K mg base 2 "_law_some_rows" ["_law_bag_here", "_law_many", "_law_top"] (fun ds Q => pSRows ds fun xs => Q (.lst xs)) := (ok_some_rowsF T).dat
theorem ok_shared (T : Txt K mg) : Calld P wd K mg base 1 "_law_shared" ["_law_numbers"] pLShared := by
  refine defC T.d_shared sc_shared ?_ pLShared_mo ?_
  · rintro ds Q ⟨d, ns, rfl, _⟩
    rfl
  · rintro f cdv A outer s0 H E w ds Q hr hG ⟨d, ns, rfl, hd, hn, hs, q⟩
    refine ⟨_, (psd_cons (psd_set (i := 1) ped_int sc_shared.nd)
    (psd_cons (psd_for (pid_seq (ped_var 0)) (pg_name (i := 2) sc_shared.nd rfl (Or.inl rfl)) (gd_name 2) (gName_mo 2)
    (psd_cons (psd_par (i := 3) (j := 4) (ped_abs T.m_abs (pad_cons (ped_var 1) pad_nil)) (ped_abs T.m_abs (pad_cons (ped_var 2) pad_nil)) sc_shared.nd)
    (psd_cons (psd_for (pid_range T.m_range ped_int) (pg_name (i := 5) sc_shared.nd rfl (Or.inl rfl)) (gd_name 5) (gName_mo 5)
    (psd_one (psd_if (ptd_ne hr (ped_var 4) ped_int) (psd_one (psd_par (i := 3) (j := 4) (ped_var 4) (ped_mod (ped_intF T.m_int (pad_cons (ped_var 3) pad_nil)) (ped_var 4)) sc_shared.nd)) psd_nil)))
    (psd_one (psd_set (i := 1) (ped_var 3) sc_shared.nd)))))
    (psd_one (psd_ret (ped_var 1))))), ?_⟩
    have hit : d = .lst (ns.map .int) ∨ itemsOf d = some (ns.map .int) := hd.imp id fun z => by rw [z]; rfl
    refine ⟨_, rfl, _, hit, ?_⟩
    refine forD_run (fun i r => ∃ (g : Nat) (s2 s3 s4 s5 : Sl), r = [.dat d, .dat (.int (g : Nat)), s2, s3, s4, s5] ∧ g = (ns.take i).foldl (fun g a => Nat.gcd g a.natAbs) 0 ∧ g < 2 ^ 190) ⟨0, _, _, _, _, rfl, rfl, Nat.pow_pos (by decide)⟩ ?_ ?_
    · rintro r ⟨g, s2, s3, s4, s5, rfl, hg, _⟩
      rw [List.length_map, List.take_length] at hg
      subst hg
      exact ⟨_, rfl, q⟩
    · rintro i d2 r nx hd2 ⟨g, s2, s3, s4, s5, rfl, hg, sg⟩ k
      rw [List.getElem?_map] at hd2
      obtain ⟨a, ha, rfl⟩ := Option.map_eq_some_iff.mp hd2
      have sa := hs a (List.mem_of_getElem? ha)
      have absE : ∀ i : Int, (if i < 0 then -i else i) = ((i.natAbs : Nat) : Int) := fun i => by split <;> omega
      refine ⟨_, rfl, _, rfl, _, rfl, _, rfl, ?_⟩
      rw [absE, absE, Int.natAbs_natCast]
      refine ⟨400, rfl, by decide, by decide, ?_⟩
      refine forD_run (fun j r => ∃ (u v : Nat) (s5 : Sl), r = [.dat d, .dat (.int (g : Nat)), .dat (.int a), .dat (.int (u : Nat)), .dat (.int (v : Nat)), s5] ∧ EuN (Nat.gcd g a.natAbs) j u v) ⟨g, a.natAbs, _, rfl, rfl, fun _ => ⟨sg, sa⟩, fun z => by omega⟩ ?_ ?_
      · rintro r ⟨u, v, s5, rfl, e⟩
        rw [rngD_len] at e
        have := EuN.done e
        subst this
        refine ⟨_, rfl, k _ ⟨Nat.gcd g a.natAbs, _, _, _, _, rfl, ?_, ?_⟩⟩
        · have et : ns.take (i + 1) = ns.take i ++ [a] := by rw [List.take_add_one, ha]; rfl
          rw [et, List.foldl_append, ← hg]
          rfl
        · by_cases z : g = 0
          · rw [z, Nat.gcd_zero_left]; exact sa
          · exact Nat.lt_of_le_of_lt (Nat.gcd_le_left _ (Nat.pos_of_ne_zero z)) sg
      · rintro j d3 r nx2 hd3 ⟨u, v, s5, rfl, e⟩ k2
        refine ⟨_, rfl, shp_int _, shp_int _, _, rfl, ite2 (fun h => ?_) (fun h => ?_)⟩
        · have v0 : v ≠ 0 := by
            rw [if_pos rfl, eqd_int] at h
            simpa using h
          refine ⟨_, rfl, _, rfl, .inl ⟨_, rfl, _, rfl, by omega, k2 _ ⟨v, u % v, _, rfl, e.next v0⟩⟩⟩
        · have v0 : v = 0 := by
            rw [if_pos rfl, eqd_int] at h
            simpa using h
          subst v0
          exact k2 _ ⟨u, 0, _, rfl, e.none⟩
end
end K23
namespace K23
open PySem PySem.Spec PyProof.Rows L2 Pd El Rw
/-! ### the least number that makes a row -/
theorem facOf_le {a b : Int} (h : 0 < a) : 1 ≤ facOf a b ∧ facOf a b ≤ a := by
  obtain ⟨f1, f2, f3⟩ := facOf_is (b := b) h
  refine ⟨f1, ?_⟩
  generalize ((a.gcd b : Nat) : Int) = g at f2 f3
  have := Int.mul_le_mul_of_nonneg_left (show (1 : Int) ≤ g by omega) (show (0 : Int) ≤ facOf a b by omega)
  rw [Int.mul_one, ← f2] at this
  exact this
theorem clr_ex {m : Nat} {row : List Int} {P : Int} {ms : List (List Int)} (hrow : row.length = m) (P1 : 1 ≤ P) (hl : ∀ a ∈ ms, a.length = m) (e : Ech 0 (ms.map co)) (pv : ∀ a ∈ ms, ∀ p, Fp (co a) p → 0 < co a p ∧ co a p ≤ P) :
    ∀ k, k ≤ ms.length → ∃ N l, Clr m (ms.take k) row N l ∧ N ≤ P ^ k
  | 0, _ => ⟨1, row, by rw [List.take_zero]; exact Clr.start hrow, by rw [Int.pow_zero]; omega⟩
  | k + 1, hk => by
    obtain ⟨N, l, h, b⟩ := clr_ex hrow P1 hl e pv k (by omega)
    have hk' : k < ms.length := hk
    have mem : ms[k] ∈ ms := List.getElem_mem hk'
    obtain ⟨p, fp, _⟩ := e.has (co ms[k]) (List.mem_map_of_mem mem)
    obtain ⟨p0, pP⟩ := pv _ mem p fp
    have et : ms.take (k + 1) = ms.take k ++ [ms[k]] := by rw [List.take_add_one, List.getElem?_eq_getElem hk']; rfl
    have e2 : Ech 0 ((ms.take k ++ [ms[k]]).map co) := by
      rw [← et]
      have z := e
      rw [← List.take_append_drop (k + 1) ms, List.map_append] at z
      exact z.front
    have S := h.snoc (hl _ mem) (fun a ha => hl a (List.mem_of_mem_take ha)) e2 fp p0 hrow
    rw [← et] at S
    refine ⟨_, _, S, ?_⟩
    obtain ⟨f1, f2⟩ := facOf_le (b := co l p) p0
    have n1 := h.pos
    rw [Int.pow_succ]
    have a1 := Int.mul_le_mul_of_nonneg_left (show facOf (co ms[k] p) (co l p) ≤ P by omega) (show (0 : Int) ≤ N by omega)
    have a2 := Int.mul_le_mul_of_nonneg_right b (show (0 : Int) ≤ P by omega)
    omega
/-- what is known of a number that divisor tells -/
structure Dvs (m : Nat) (G : List (List Int)) (row : List Int) (N : Int) : Prop where
  pos : 1 ≤ N
  least : ∀ n : Int, Lat (G.map co) (fun i => n * co row i) ↔ N ∣ n
  small : ∀ n B : Nat, (m ≤ n ∨ G.length ≤ n) → 1 ≤ B → (∀ g ∈ G, ∀ i, (co g i).natAbs ≤ B) → 1 ≤ bdP n B → N ≤ (bdP n B : Int) ^ n
theorem dvs_of {m : Nat} {G ms : List (List Int)} {row l : List Int} {N : Int} (H : Hnf m G ms) (h : Clr m ms row N l) (hrow : row.length = m) (z : ∀ i, co l i = 0) : Dvs m G row N := by
  have same : ∀ x : Vc, Lat (ms.map co) x ↔ Lat (G.map co) x := fun x => by
    constructor
    · intro hx
      exact hx.mono fun g hg => by obtain ⟨y, hy, rfl⟩ := List.mem_map.mp hg; exact H.l1 y hy
    · intro hx
      exact hx.mono fun g hg => by obtain ⟨y, hy, rfl⟩ := List.mem_map.mp hg; exact H.l2 y hy
  refine ⟨h.pos, fun n => (same _).symm.trans (h.least z n), fun n B hn b1 hB hP => ?_⟩
  have cms : ms.length ≤ n := by
    rcases hn with hn | hn
    · have q := ech_count (m := m) H.ech (fun s hs i hi => by obtain ⟨x, hx, rfl⟩ := List.mem_map.mp hs; exact co_out (by rw [H.len x hx]; exact hi)) (Nat.zero_le _)
      rw [List.length_map] at q
      omega
    · exact Nat.le_trans H.cnt hn
  have pb := (H.bound cms b1 hB).1
  obtain ⟨N', l', h', b'⟩ := clr_ex (P := (bdP n B : Int)) hrow (by omega) H.len H.ech (fun a ha p fp => ⟨H.pos a ha p fp, by have := pb a ha p fp; have := H.pos a ha p fp; omega⟩) ms.length (Nat.le_refl _)
  rw [List.take_length] at h'
  have z' : ∀ i, co l' i = 0 := (h'.held H.ech).mpr ((h.held H.ech).mp z)
  have d1 : N ∣ N' := (h.least z N').mp ((h'.least z' N').mpr ⟨1, by rw [Int.mul_one]⟩)
  have p' := h'.pos
  have le1 : N ≤ N' := Int.le_of_dvd (by omega) d1
  refine Int.le_trans (Int.le_trans le1 b') ?_
  have z := Nat.pow_le_pow_right (show 0 < bdP n B by omega) cms
  rw [← Int.natCast_pow, ← Int.natCast_pow]
  omega
end K23
/-! count, of plain data in a list; == and != where only units are told (in an except suite, too). -/
namespace Pd
open PySem PySem.Spec PyProof.Rows L2
def rCntL (K : PySem.W.Frag) : V → List V → Hp → VK → Prop := fun x vs H Q => ∃ (l : Addr) (xs : List V) (ds : List PyData) (d : PyData) (y : V), x = .ref l ∧ vs = [y] ∧ SqL K H l xs ∧ DpAll K H xs ds ∧ PyData.plainAll ds = true ∧ PyData.depthAll ds ≤ 60 ∧ Dp K H y d ∧ d.plain = true ∧ Q (.int ((ds.countP fun z => PyData.eqv z d : Nat) : Int)) H
section
variable {X : Cx} {w : Wd} {o e : Expr} {to te : TDE} {pos apos cpos : Pos}
theorem mt_cntL (hu : X.A.units + 64 < cLine) : MtR X "list.count" (rCntL X.K) := by
  intro pins s σ H x vs v us Q I rx rv h
  obtain ⟨l, xs, ds, d, y, rfl, rfl, hq, hd, hp, hdep, dy, dp, q⟩ := h
  cases rx
  obtain ⟨u, rfl, ru⟩ := vals1 rv
  obtain ⟨its, rvs, pl, hz⟩ := I.list hq
  obtain ⟨as, ra⟩ := Dp.readsAll I ds xs its hd rvs
  obtain ⟨bs, rb⟩ := Dp.reads I d y u dy ru
  refine PySem.SeqAt.count_list_data (xs := ds) (d := d) pl.isList ra rb hp dp (by have : min (PyData.depthAll ds) d.depth ≤ PyData.depthAll ds := Nat.min_le_left _ _; omega) ?_
  exact ⟨.int _, H, I.tok _, ⟨_, rfl⟩, q⟩
def dCntL (ta tb : TDE) : TDE := fun r Q => ta r fun x => ∃ xs, x = .lst xs ∧ canPs xs = true ∧ PyData.depthAll (toPs xs) ≤ 60 ∧ tb r fun y => canP y = true ∧ Q (.int (((toPs xs).countP fun d => PyData.eqv d (toP y) : Nat) : Int))
theorem ped_cntL (hu : X.A.units + 64 < cLine) (ho : PEd X w o to) (he : PEd X w e te)
    (hbase : attributeBase o "count" X.env (eval o X.env) = eval o X.env := by rfl)
    (hfew : ((backTo cpos (starEach [e] X.env)).all (fun x => !x.1) && (backToKw cpos (keywordEach [] X.env)).all (fun x => x.1.isSome) && decide (([e] : List Expr).length + ([] : List Keyword).length + (if ([] : List Keyword).isEmpty then 0 else 1) < 30)) = true := by rfl)
    (hline : (apos.endLine == cpos.line) = true := by rfl) (hst : starEach [e] X.env = (false, eval e X.env) :: starEach [] X.env := by rfl) (hpl : (backTo cpos (starEach [] X.env)).any (·.1) = false := by rfl) :
    PEd X w (.Call (.Attribute o "count" apos) [e] [] cpos) (dCntL to te) := by
  refine ⟨weE (pe_bm PySem.F.plainAttrs_list PySem.F.slot_list_count PySem.F.type_list_count (mt_cntL hu) ho.pe (pa_cons he.pe pa_nil hst) hbase hfew hline hst hpl) ?_, fun r Q Q' q h => ho.mo _ _ _ (fun x ⟨xs, a, b, c, z⟩ => ⟨xs, a, b, c, he.mo _ _ _ (fun y ⟨a, z⟩ => ⟨a, q _ z⟩) z⟩) h⟩
  rintro σ H Q ⟨W, own, r, S, h⟩
  refine go1 ho S h fun x v H1 e1 k1 d1 z => ?_
  obtain ⟨xs, rfl, hc, hdep, z⟩ := z
  cases d1 with
  | @lst a us _ a1 a2 =>
    refine ⟨.inl ⟨rfl, _, SqL.of (hid_some a1).2⟩, ?_⟩
    refine go1 he (S.ext e1 k1) z fun y u H2 e2 k2 d2 z => ?_
    have s2 := e2.hid k1.gW
    exact ⟨a, us, toPs xs, toP y, u, rfl, rfl, SqL.of (hid_some (s2 _ _ a1)).2, DvAll.dp xs us (DvAll.mono hid_sub _ _ (DvAll.mono s2 _ _ a2)) hc, plain_toPs xs hc, hdep, Dv.dp y u (Dv.mono hid_sub _ _ d2) z.1, plain_toP y z.1, (z.2.then (e1.trans e2)).now k2 (.int _)⟩
theorem ptd_eqU (hu : X.A.units + 64 < cLine) (ha : PEd X w o to) (hb : PEd X w e te) : PTd X w (.Compare o [.Eq] [e] pos) (dB (dOp (eqD false) to te)) := ptd_cmp (op_eqD hu) (nobehind _ (by decide) (by decide)) eqD_mo eqD_br ha hb
theorem ptd_neU (hu : X.A.units + 64 < cLine) (ha : PEd X w o to) (hb : PEd X w e te) : PTd X w (.Compare o [.NotEq] [e] pos) (dB (dOp (eqD true) to te)) := ptd_cmp (op_neD hu) (nobehind _ (by decide) (by decide)) eqD_mo neD_br ha hb
end
end Pd
namespace K23
open PySem PySem.Spec PyProof.Rows L2 Pd El Rw
theorem psd_when {X : Cx} {w : Wd} {b : List Stmt} {t : TDS} (h : Prop) (f : h → PSsd X w b t) : PSsd X w b (fun E r => h ∧ t E r) :=
  ⟨⟨fun pins s σ H D I ⟨W, own, r, S, hh, z⟩ => (f hh).ps.run pins s σ H D I ⟨W, own, r, S, z⟩⟩, fun E E' r l z => ⟨z.1, (f z.1).mo E E' r l z.2⟩⟩
theorem held_same {m : Nat} {G ms : List (List Int)} (H : Hnf m G ms) {x : Vc} : Held (ms.map co) x ↔ Held (G.map co) x := by
  constructor
  · rintro ⟨D, hD, h⟩
    exact ⟨D, hD, h.mono fun g hg => by obtain ⟨y, hy, rfl⟩ := List.mem_map.mp hg; exact H.l1 y hy⟩
  · rintro ⟨D, hD, h⟩
    exact ⟨D, hD, h.mono fun g hg => by obtain ⟨y, hy, rfl⟩ := List.mem_map.mp hg; exact H.l2 y hy⟩
def pDivX (cN : Addr) : DSpX := fun ds Q R => ∃ (m a : Nat) (G : List (List Int)) (row : List Int), ds = [.lst (G.map rwD), rwD row] ∧ m ≤ 63 ∧ Fine m G ∧ row.length = m ∧ El.Sm a row ∧ a ≤ 100000 ∧ (¬ Held (G.map co) (co row) → R ⟨cN, some ("row", rwD row)⟩) ∧ (Held (G.map co) (co row) → ∀ N, Dvs m G row N → Q (.int N))
theorem pDivX_mo {cN : Addr} : MoPX (pDivX cN) := fun _ _ _ _ _ q r ⟨m, a, G, row, h1, h2, h3, h4, h5, h6, x, y⟩ => ⟨m, a, G, row, h1, h2, h3, h4, h5, h6, fun h => r _ (x h), fun h N d => q _ (y h N d)⟩
section
variable {P : Program} {wd : World} {K : PySem.W.Frag} {mg : Str → Option Value} {base : Heap}
theorem okX_divisor (T : Txt K mg) {cN cM : Addr} (xs : Xs K mg cN cM) : CalldX P wd K mg base 9 "divisor" ["rows", "row"] (pDivX cN) := by
  refine defCX T.dp_divisor scp_divisor ?_ pDivX_mo ?_
  · rintro ds Q R ⟨m, a, G, row, rfl, _⟩
    rfl
  · rintro f cdv A outer s0 H E w ds Q R hr hG tk ⟨m, a, G, row, rfl, hm, fw, hrow, hsm, ha, r, q⟩
    refine ⟨_, (psd_cons (psd_asg (ped_f ((okp_cleared T).up (by decide)) hr hG (pad_cons (ped_var 0) (pad_cons (ped_var 1) pad_nil))) (pg_tup rfl (pgs_cons (pg_name (i := 2) scp_divisor.nd rfl (Or.inl rfl)) (pgs_cons (pg_name (i := 3) scp_divisor.nd rfl (Or.inl rfl)) pgs_nil))) (gd_tup2 2 3) (gTup_mo (gCons_mo (gName_mo 2) (gCons_mo (gName_mo 3) gNil_mo))))
    (psd_cons (psd_if (ptd_val (ped_anyI T.m_any (pad_cons (ped_var 3) pad_nil))) (psd_one (psd_raiseF (k := 0) tk xs.eN (hr.mono (by decide)) (ped_var 1))) psd_nil)
    (psd_one (psd_ret (ped_var 2))))), ?_⟩
    refine ⟨_, rfl, _, rfl, m, a, G, row, rfl, hm, fw, hrow, hsm, ha, fun ms N l H' C' => ⟨_, _, rfl, _, rfl, l, rfl, _, rfl, ite2 (fun h => ?_) fun h => ?_⟩⟩
    · refine ⟨_, rfl, r fun hh => ?_⟩
      have z := (C'.held H'.ech).mpr ((held_same H').mpr hh)
      obtain ⟨x, hx, e⟩ := List.any_eq_true.mp h
      obtain ⟨j, hj, rfl⟩ := List.mem_iff_getElem.mp hx
      rw [← co_at hj, z j] at e
      exact absurd e (by decide)
    · have z : ∀ i, co l i = 0 := fun i => by
        by_cases c : i < l.length
        · rw [co_at c]
          have := List.any_eq_false.mp (Bool.not_eq_true _ ▸ h) l[i] (List.getElem_mem c)
          simpa using this
        · exact co_out (by omega)
      exact ⟨_, rfl, q ((held_same H').mp ((C'.held H'.ech).mp z)) N (dvs_of H' C' hrow z)⟩
/-! ### how a call ends -/
def tsR (K : PySem.W.Frag) (cN a : Addr) (d : Option Addr) : TDS := dSeq (dSet (dLst (dCons (dIsX K cN a d cN (dVar 3)) dNil)) 1)
  (dSeq (dIf (dB (dOp (eqD true) (dCntL (dVar 1) (dC (.bl true))) (dC (.int 1)))) (dRet (dTup (dCons (dC (.str "error")) (dCons (dLst dNil) (dCons (dLst dNil) dNil))))) dNext)
  (dSeq (dSet (dIndexB (dVar 1) (dC (.bl true))) 2)
    (dIf (dB (dOp (eqD false) (dVar 2) (dC (.int 0)))) (dRet (dTup (dCons (dC (.str "error")) (dCons (dLst (dCons (dC (.int 0)) dNil)) (dCons (dLst (dCons (dXf K a d "row" (dVar 3)) dNil)) dNil))))) dNext)))
def sc_raisedE : FnScope ["_law_act", "_law_some", "_law_at", "e"] ["_law_act"] (defScope s_raised) := ⟨rfl, rfl, rfl, by decide +kernel, rfl, by decide +kernel, by decide +kernel⟩
def pRaised (cN : Addr) : DSpG := fun fv ds Q R => ∃ v q, ds = [.raw v] ∧ fv v 0 q ∧ q [] (fun d => Q (.tup [.str "told", d])) (fun x => ∃ y, x = ⟨cN, some ("row", y)⟩ ∧ noL y = true ∧ Q (.tup [.str "error", .lst [.int 0], .lst [y]]))
theorem pRaised_mo (cN : Addr) : MoPG (pRaised cN) := fun fv m _ _ _ _ _ q r ⟨v, y, a, b, z⟩ => ⟨v, y, a, b, m _ _ _ b _ _ _ _ _ (fun d h => q _ h) (fun x ⟨y, h1, h2, h3⟩ => ⟨y, h1, h2, q _ h3⟩) z⟩
theorem okG_raised (T : Txt K mg) {tb : List (Addr × Str)} {cN cM : Addr} (xs : Xs K mg cN cM) : CalldG P wd K mg base tb 10 11 "_law_raised" ["_law_act"] (pRaised cN) := by
  refine defG T.d_raised sc_raisedE ?_ (pRaised_mo cN) ?_
  · rintro fv ds Q R ⟨v, q, rfl, _⟩
    rfl
  · rintro f cdv A outer s0 H E w fv ds Q R hr hG hT hfv tk ⟨v, y, rfl, hy, z⟩
    refine ⟨_, psd_cons (psd_tryG (i := 3) (c := .ref cM) (x := "MuchError") (n := "e")
      (tb := fun R => dRet (dTup (dCons (dC (.str "told")) (dCons (dCallV fv 0 0 R dNil) dNil)))) (ts := fun a d x E r => x.C = cN ∧ tsR K cN a d E r) sc_raisedE.nd ⟨rfl, by decide, .inl xs.gM⟩ ?hb ?mb ?hs)
      (psd_one (psd_ret (ped_tup (pad_cons ped_str (pad_cons (ped_lst pad_nil) (pad_cons (ped_lst pad_nil) pad_nil)))))), ?_⟩
    case hb =>
      intro pn xe w' R sub tk'
      exact psd_one (psd_ret (ped_tup (pad_cons ped_str (pad_cons (ped_callV (kf := 10) ((hfv.sub sub).tr pn xe) tk' (hr.mono (by decide)) hG) pad_nil))))
    case mb =>
      rintro R R' q E r ⟨v1, y1, h1, h2, h3, h4⟩
      exact ⟨v1, y1, h1, h2, h3, hfv.mp _ _ _ h2 _ _ _ _ _ (fun _ z => z) (fun x z => q x _ z) h4⟩
    case hs =>
      intro a oe d pn x hz hf
      refine psd_when (x.C = cN) fun hc => ?_
      rw [hc] at hz
      exact psd_cons (psd_set (i := 1) (ped_lst (pad_cons (ped_isX xs.xo hz hf T.m_isinstance (ped_var 3) xs.eN.gC) pad_nil)) sc_raisedE.nd)
        (psd_cons (psd_if (ptd_neU hr.units (ped_cntL hr.units (ped_var 1) ped_bl) ped_int) (psd_one (psd_ret (ped_tup (pad_cons ped_str (pad_cons (ped_lst pad_nil) (pad_cons (ped_lst pad_nil) pad_nil)))))) psd_nil)
        (psd_cons (psd_set (i := 2) (ped_indexB (ped_var 1) ped_bl) sc_raisedE.nd)
        (psd_one (psd_if (ptd_eqU hr.units (ped_var 2) ped_int) (psd_one (psd_ret (ped_tup (pad_cons ped_str (pad_cons (ped_lst (pad_cons ped_int pad_nil)) (pad_cons (ped_lst (pad_cons (ped_xf xs.xo hz hf xs.eN.no (ped_var 3)) pad_nil)) pad_nil)))))) psd_nil))))
    refine ⟨?_, ?_⟩
    · intro i d h
      match i with
      | 0 => exact .inr ⟨_, (Option.some.inj h).symm⟩
      | 1 => exact .inl (Option.some.inj h).symm
      | 2 => exact .inl (Option.some.inj h).symm
      | 3 => exact .inl (Option.some.inj h).symm
      | i + 4 => cases h
    · refine ⟨v, y, rfl, hy, rfl, hfv.mp _ _ _ hy _ _ _ _ _ (fun d h => ⟨by show 2 ≤ sizeLine; decide, h⟩) (fun x h => ?_) z⟩
      obtain ⟨u, rfl, hu, h⟩ := h
      refine ⟨xs.xm, hu, fun a d => ⟨rfl, ?_⟩⟩
      refine ⟨_, rfl, some _, true, rfl, xs.kN, show 1 ≤ sizeLine by decide, ?_⟩
      have cb : canPs [Da.bl true] = true := by decide
      refine ⟨_, rfl, [.bl true], rfl, cb, by decide, by decide, shp_int _, shp_int _, _, rfl, ?_⟩
      refine ite2 (fun h => absurd h ?_) fun _ => ?_
      · decide
      refine ⟨_, rfl, [true], rfl, true, 0, rfl, rfl, fun m hm => absurd hm (by omega), ?_⟩
      refine ⟨_, rfl, shp_int _, shp_int _, _, rfl, ite2 (fun _ => ?_) fun h => absurd ?_ h⟩
      · exact ⟨show 1 ≤ sizeLine by decide, _, rfl, u, rfl, hu, show 1 ≤ sizeLine by decide, show 3 ≤ sizeLine by decide, h⟩
      · decide
end
end K23
/-! A dict of one's own as a slot: set to a new one, changed, emptied, asked; for in a def that returns a new value. -/
namespace Pd
open PySem PySem.Spec PyProof.Rows L2
section
variable {K : PySem.W.Frag} {w : Wd} {W : Addr → Bool} {own : Ow} {r : En} {σ : L2.St} {H H1 : Hp}
end
section
variable {X : Cx} {w : Wd} {e f : Expr} {te tf : TDE}
end
/-! ### for, in a def that returns a new value -/
structure PSV (X : Cx) (w : Wd) (st : Stmt) (t : TDV) : Prop where
  ps : PS X st (fun E σ H => ∃ W own r, Stt X.K w W own r σ H ∧ t (endV X.K w W H E) r)
  mo : ∀ E E' r, LeV E E' → t E r → t E' r
section
variable {X : Cx} {w : Wd} {st : Stmt} {rest : List Stmt} {u t : TDV}
end
end Pd
/-! in, not in, of a dict of numbers and a list of such. -/
namespace PySem.SeqAt
open AutoSeq1 (wpAny_loadPart')
open MeetsSeq MeetsSeq2 MeetsSeq3 SeqRoads2
section
variable {prog : Program} {w : World}
end
end PySem.SeqAt
namespace PySem.SeqAt
open MeetsSeq MeetsSeq2 MeetsSeq3 SeqRoads2
section
variable {prog : Program} {w : World} {A : Around} {E : Value → Shared → Prop} {s : Shared}
end
end PySem.SeqAt
namespace Pd
open PySem PySem.Spec PyProof.Rows L2
section
variable {X : Cx} {w : Wd} {a b : Expr} {ta tb : TDE} {pos : Pos}
end
end Pd
/-! list(range(n)), list(range(a, b)). -/
namespace Pd
open PySem PySem.Spec PyProof.Rows L2
section
variable {X : Cx} {w : Wd} {e f : Expr} {te tf : TDE}
def rngI (a b : Int) : List Da := (List.range (b - a).toNat).map fun i : Nat => .int (a + i)
end
end Pd
namespace Pd
open PySem PySem.Spec PyProof.Rows L2
section
variable {X : Cx} {w : Wd} {e f tg : Expr} {te tf : TDE} {pos : Pos}
theorem wlk_rng2 {K : PySem.W.Frag} {g : Gd} {W : Addr → Bool} {H : Hp} {a b : Int} : Wlk K g W H (Itr a (b - a).toNat) (rngI a b) := by
  intro i H' s
  have l : (rngI a b).length = (b - a).toNat := by unfold rngI; rw [List.length_map, List.length_range]
  rw [l]
  refine ⟨fun h => h, fun h => h, fun x H'' hi y => ?_⟩
  obtain ⟨e, y⟩ := y
  subst e y
  refine ⟨fun _ _ h => h, _, ?_, fun Z _ _ => .int _⟩
  unfold rngI
  rw [List.getElem?_map, List.getElem?_range hi]
  rfl
def dItR2 (t u : TDE) : TDI := fun r Q => t r fun d => u r fun d' => ∃ a b : Int, d = .int a ∧ d' = .int b ∧ (-(2 ^ 62) ≤ a ∧ a < 2 ^ 62 ∧ -(2 ^ 62) ≤ b ∧ b < 2 ^ 62) ∧ Q (rngI a b)
theorem pid_range2 {p : Pos} (hm : X.mg "range" = none) (h : PEd X w e te) (h' : PEd X w f tf) (hg : Gl X "range" := by rfl) (h1 : starEach (e :: [f]) X.env = (false, eval e X.env) :: starEach [f] X.env := by rfl) (h2 : starEach (f :: []) X.env = (false, eval f X.env) :: starEach [] X.env := by rfl)
    (hs : starEach [e, f] X.env = [(false, eval e X.env), (false, eval f X.env)] := by rfl) (hs2 : starEach [f] X.env = [(false, eval f X.env)] := by rfl) : PId X w tg (.Call (.Name "range" p) [e, f] [] pos) (dItR2 te tf) := by
  refine ⟨weI (pi_range2 hg hm (pa_cons h.pe (pa_cons h'.pe pa_nil h2) h1) hs hs2) ?_, fun r Q Q' q z => h.mo _ _ _ (fun d => h'.mo _ _ _ fun d' ⟨n, n', a, b, c, z⟩ => ⟨n, n', a, b, c, q _ z⟩) z⟩
  rintro σ H R ⟨W, own, r, S, z⟩
  refine go1 h S z fun d v H1 e1 k1 d1 p => go1 h' (S.ext e1 k1) p fun d' v' H2 e2 k2 d2 ⟨a, b, ea, eb, ok, y⟩ => ?_
  subst ea eb
  cases d1
  cases d2
  exact ⟨a, b, rfl, ok, y _ H2 (e1.trans e2) k2 wlk_rng2⟩
end
end Pd
namespace Pd
open PySem PySem.Spec PyProof.Rows L2
section
variable {X : Cx} {w : Wd} {a b : Expr} {ta tb : TDE} {pos : Pos}
end
end Pd
namespace K23
open PySem PySem.Spec PyProof.Rows L2 Pd El Rw
def TM (t : TDE) : Prop := ∀ r Q Q', (∀ d, Q d → Q' d) → t r Q → t r Q'
def TMA (t : TDA) : Prop := ∀ r Q Q', (∀ ds, Q ds → Q' ds) → t r Q → t r Q'
theorem tm_var {i : Nat} : TM (dVar i) := fun r Q Q' q ⟨d, h, z⟩ => ⟨d, h, q _ z⟩
theorem tm_nil : TMA dNil := fun _ _ _ q z => q _ z
theorem tm_cons {t : TDE} {u : TDA} (h : TM t) (g : TMA u) : TMA (dCons t u) := fun r Q Q' q z => h r _ _ (fun d z => g r _ _ (fun ds z => q _ z) z) z
theorem mo_X {p : DSpX} {t : TDA} (mp : MoPX p) (tm : TMA t) : ∀ (R : Xn → En → Prop) r Q Q', (∀ d, Q d → Q' d) → dCallX p R t r Q → dCallX p R t r Q' := fun R r Q Q' q z => tm r _ _ (fun ds z => mp ds _ _ _ _ q (fun _ z => z) z) z
theorem lam_call {X : Cx} {w : Wd} {dsp : DSpX} {k : Nat} {x : Str} {ps : List Str} {e : Expr} {es : List Expr} {t : TDA} {p pos : Pos} {params : Arguments} {scope : Scope} (c : CalldX X.prog X.w X.K X.mg X.base k x ps dsp)
    (M : Maker X.base X.mg w.g.tab X.env.code (X.env.qual ++ "<lambda>")) (sc : Scope) (tm : TMA t)
    (args : ∀ (A : Around) (outer : List Env) (s1 : Shared) (H1 : Hp) (E : XK) (f c' : Addr) (w1 : Wd), PAd (LamX.lamCx X A outer s1 H1 E scope f c') w1 (e :: es) t)
    (hsc : X.env.scope = sc := by rfl) (S : LamX.lamSB sc scope = true := by decide +kernel) (gl : scope.names.lookup x = some .globalImplicit := by rfl) (hd : defaultsOf params X.env = ([], []) := by rfl)
    (hb : ∀ (q : Str) (cl : List (Str × Addr)) (pm cv ctv : Value), bindArgs (PySem.W.kla_fn "<lambda>" q params (.Call (.Name x p) (e :: es) [] pos) scope cl pm cv ctv) {} = pure [] := by intros; rfl)
    (nd : (x == ("__debug__" : Str)) = false := by decide)
    (st : ∀ env, starEach (e :: es) env = (false, eval e env) :: starEach es env := by intro _; rfl) (bk : ∀ env, (backTo pos (starEach es env)).any (·.1) = false := by intro _; rfl) :
    Lam0 X w params (.Call (.Name x p) (e :: es) [] pos) scope k (fun R => dCallX dsp R t) := by
  refine ⟨M, hd, LamX.lamS_by (by rw [hsc]; exact S), hb, fun R R' q r Q z => tm r _ _ (fun ds z => c.mp ds _ _ _ _ (fun _ z => z) (fun x z => q x _ z) z) z, mo_X c.mp tm, fun A outer s1 H1 E f c' w1 R g room hG tk => ?_⟩
  exact ped_fX (X := LamX.lamCx X A outer s1 H1 E scope f c') tk (c.up (Nat.le_refl k)) room hG (args A outer s1 H1 E f c' w1) gl nd (st _) (bk _)
theorem joinK {α : Type} {H : α → Prop} {G : Prop} (M : α → Prop) (k : ∀ x, H x → M x) (a : (∀ x, H x → M x) → G) : G := a k
def pPrimes : DSp := fun ds Q => ∃ N : Int, ds = [.int N] ∧ 1 ≤ N ∧ N < 2 ^ 400 ∧ ∀ ps : List Int, (∀ q ∈ ps, 2 ≤ q ∧ q ∣ N) → ps.length ≤ 500 → Q (.lst (ps.map .int))
theorem pPrimes_mo : MoP pPrimes := fun _ _ _ q ⟨N, e, h1, h2, z⟩ => ⟨N, e, h1, h2, fun ps a b => q _ (z ps a b)⟩
def pRight : DSp := fun ds Q => ∃ (m : Nat) (G : List (List Int)) (row : List Int), ds = [.lst (G.map rwD), rwD row] ∧ m ≤ 6 ∧ G.length ≤ 4 ∧ Few m G ∧ row.length = m ∧ (∀ i, (co row i).natAbs ≤ 1000) ∧ Q (.bl true)
theorem pRight_mo : MoP pRight := fun _ _ _ q ⟨m, G, row, e, h1, h2, h3, h4, h5, z⟩ => ⟨m, G, row, e, h1, h2, h3, h4, h5, q _ z⟩
theorem bd4 : bdP 4 30 ≤ 2 ^ 600 ∧ bdW 4 30 (2 ^ 600) < 2 ^ 1200 ∧ 1 ≤ bdP 4 30 ∧ (bdP 4 30) ^ 4 < 2 ^ 400 := by decide +kernel
theorem noL_rw (row : List Int) : noL (rwD row) = true := noL_row row
theorem sz_err {m : Nat} {row : List Int} (hrow : row.length = m) (hm : m ≤ 6) (hR : ∀ i, (co row i).natAbs ≤ 1000) : Sz (.tup [.str "error", .lst [.int 0], .lst [rwD row]]) 3 50000 := by
  have asc : ∀ c ∈ ("error" : Str).cps.toList, c < 128 := by decide +kernel
  have e1 : Sz (.str "error") 2 16000 := (sz_str asc).up (by decide) (by decide)
  have i0 : ∀ i : Int, i.natAbs ≤ 1000 → Sz (.int i) 0 1921 := fun i h => sz_int (Nat.lt_of_le_of_lt (Nat.log2_le_self _) (by omega))
  have e2 : Sz (.lst [.int 0]) 2 16000 := (sz_lst (n := 0) (c := 1921) fun d hd => by rw [List.mem_singleton.mp hd]; exact i0 0 (by decide)).up (by decide) (by decide)
  have er : Sz (rwD row) 1 13000 := (sz_tup (n := 0) (c := 1921) fun d hd => by
    obtain ⟨i, hi, rfl⟩ := List.mem_map.mp hd
    obtain ⟨j, hj, rfl⟩ := List.mem_iff_getElem.mp hi
    have z := hR j
    rw [co_at hj] at z
    exact i0 _ z).up (Nat.le_refl _) (by rw [List.length_map, hrow]; have := Nat.mul_le_mul_right 1923 hm; omega)
  have e3 : Sz (.lst [rwD row]) 2 16000 := (sz_lst (n := 1) (c := 13000) fun d hd => by rw [List.mem_singleton.mp hd]; exact er).up (by decide) (show 1 * (13000 + 2) + 3 ≤ 16000 by decide)
  exact (sz_tup (n := 2) (c := 16000) fun d hd => by
    rcases List.mem_cons.mp hd with h | hd
    · rw [h]; exact e1
    · rcases List.mem_cons.mp hd with h | hd
      · rw [h]; exact e2
      · rw [List.mem_singleton.mp hd]; exact e3).up (by decide) (show 3 * (16000 + 2) + 3 ≤ 50000 by decide)
theorem shp_told : shp (.str "told") = true := (sz_str (by decide +kernel)).shp (by decide)
theorem nat400 {n : Int} (h : 1 ≤ n) (h2 : n < 2 ^ 400) : n.natAbs < 2 ^ 400 := by
  have e2 : ((2 ^ 400 : Nat) : Int) = (2 : Int) ^ 400 := by norm_cast
  omega
theorem co_mulL {row : List Int} {n : Int} {i : Nat} : co (row.map fun a => n * a) i = n * co row i := by
  by_cases c : i < row.length
  · rw [co_at (by rw [List.length_map]; exact c), List.getElem_map, co_at c]
  · rw [co_out (by rw [List.length_map]; omega), co_out (by omega), Int.mul_zero]
section
variable {P : Program} {wd : World} {K : PySem.W.Frag} {mg : Str → Option Value} {base : Heap}
theorem ok_primes (T : Txt K mg) : Calld P wd K mg base 1 "_law_primes" ["_law_number"] pPrimes := by
  refine defC T.d_primes sc_primes ?_ pPrimes_mo ?_
  · rintro ds Q ⟨N, rfl, _⟩
    rfl
  · rintro f cdv A outer s0 H E w ds Q hr hG ⟨N, rfl, hN, hb, q⟩
    refine ⟨_, (psd_cons (psd_parFE (i := 1) (j := 2) (pfd_lst pad_nil) (ped_var 0) sc_primes.nd)
    (psd_cons (psd_for (pid_range2 T.m_range ped_int ped_int) (pg_name (i := 3) sc_primes.nd rfl (Or.inl rfl)) (gd_name 3) (gName_mo 3)
    (psd_cons (psd_if (ptd_eq hr (ped_mod (ped_intF T.m_int (pad_cons (ped_var 2) pad_nil)) (ped_var 3)) ped_int) (psd_one (psd_app (i := 1) (ped_var 3))) psd_nil)
    (psd_one (psd_for (pid_range T.m_range ped_int) (pg_name (i := 4) sc_primes.nd rfl (Or.inl rfl)) (gd_name 4) (gName_mo 4)
    (psd_one (psd_if (PWd.pt (pwd_and (ptd_eq hr (ped_mod (ped_intF T.m_int (pad_cons (ped_var 2) pad_nil)) (ped_var 3)) ped_int) (pwd_and1 (ptd_gt (ped_var 2) ped_int)))) (psd_one (psd_set (i := 2) (ped_fdivZ (ped_var 2) (ped_var 3)) sc_primes.nd)) psd_nil))))))
    (psd_one (psd_ret (PFd.ped (pfd_cat (fun _ => (ped_var 1)) (fun _ => (ped_rep (ped_lst (pad_cons (ped_var 2) pad_nil)) (ped_intF T.m_int (pad_cons (ped_gt (ped_var 2) ped_int) pad_nil)))))))))), ?_⟩
    have rest : ∀ M : Int, 1 ≤ M → M ≤ N → M.natAbs < 2 ^ 400 := fun M h1 h2 => nat400 h1 (by omega)
    have ld : ∀ M : Int, 1 ≤ M → M ≤ N → M.natAbs.log2 < 9000 := fun M h1 h2 => Nat.lt_trans (log_pow (rest M h1 h2) (by decide)) (by decide)
    refine ⟨show 0 ≤ sizeLine by decide, _, rfl, 2, 400, rfl, rfl, ⟨by decide, by decide, by decide, by decide⟩, ?_⟩
    refine forD_run (fun i r => ∃ (ps : List Int) (M : Int) (s3 s4 : Sl), r = [.dat (.int N), .own (ps.map .int), .dat (.int M), s3, s4] ∧ 1 ≤ M ∧ M ∣ N ∧ (∀ q ∈ ps, 2 ≤ q ∧ q ∣ N) ∧ ps.length ≤ i) ⟨[], N, _, _, rfl, hN, Int.dvd_refl N, fun _ h => absurd h List.not_mem_nil, Nat.le_refl _⟩ ?_ ?_
    · rintro r ⟨ps, M, s3, s4, rfl, h1, h2, h3, h4⟩
      have l4 : ps.length ≤ 398 := h4
      refine ⟨_, rfl, _, rfl, show 1 ≤ sizeLine by decide, ?_⟩
      refine ⟨_, rfl, .inr ⟨_, rfl, ?_⟩⟩
      by_cases c : 1 < M
      · rw [show (if (fun i j => decide (j < i)) M 1 = true then (1 : Int) else 0) = 1 from if_pos (decide_eq_true c)]
        refine ⟨by decide, by decide, show 1 * 1 ≤ sizeLine by decide, ps.map .int, [.int M], rfl, rfl, by rw [List.length_map, sizeLine_eq]; show ps.length + 1 ≤ _; omega, ?_, ?_⟩
        · have e : ps.map Da.int ++ [Da.int M] = (ps ++ [M]).map .int := by rw [List.map_append]; rfl
          rw [e]; exact noL_ints _
        · have e : ps.map Da.int ++ [Da.int M] = (ps ++ [M]).map .int := by rw [List.map_append]; rfl
          rw [e]
          refine q (ps ++ [M]) (fun x hx => ?_) (by rw [List.length_append]; show ps.length + 1 ≤ _; omega)
          rcases List.mem_append.mp hx with y | y
          · exact h3 x y
          · rw [List.mem_singleton.mp y]; exact ⟨by omega, h2⟩
      · rw [show (if (fun i j => decide (j < i)) M 1 = true then (1 : Int) else 0) = 0 from if_neg (by rw [decide_eq_true_eq]; exact c)]
        refine ⟨by decide, by decide, show 1 * 0 ≤ sizeLine by decide, ps.map .int, [], rfl, rfl, by rw [List.length_map, sizeLine_eq]; show ps.length + 0 ≤ _; omega, ?_, ?_⟩
        · rw [List.append_nil]; exact noL_ints _
        · rw [List.append_nil]
          exact q ps h3 (by omega)
    · rintro i e r nx he ⟨ps, M, s3, s4, rfl, h1, h2, h3, h4⟩ kk
      obtain ⟨p, rfl, p2, p4⟩ : ∃ p : Int, e = .int p ∧ 2 ≤ p ∧ p < 400 := by
        obtain ⟨k, hk, rfl⟩ := List.mem_map.mp (List.mem_of_getElem? he)
        have := List.mem_range.mp hk
        exact ⟨2 + (k : Int), rfl, by omega, by omega⟩
      have MN : M ≤ N := Int.le_of_dvd (by omega) h2
      have il : i < 398 := (List.getElem?_eq_some_iff.mp he).1
      apply joinK (H := fun ps' : List Int => (∀ q ∈ ps', 2 ≤ q ∧ q ∣ N) ∧ ps'.length ≤ i + 1)
      case a =>
        intro k
        refine ⟨_, rfl, .inl ⟨_, rfl, _, rfl, show (0 : Int) < p by omega, shp_int _, shp_int _, _, rfl, ite2 (fun h => ?_) fun _ => ?_⟩⟩
        · have hd : M % p = 0 := by
            rw [if_neg Bool.false_ne_true, eqd_int, beq_iff_eq] at h
            exact h
          obtain ⟨ps', e', h'⟩ : ∃ ps' : List Int, ps.map Da.int ++ [.int p] = ps'.map .int ∧ (∀ q ∈ ps', 2 ≤ q ∧ q ∣ N) ∧ ps'.length ≤ i + 1 := by
            refine ⟨ps ++ [p], by rw [List.map_append]; rfl, fun q hq => ?_, by rw [List.length_append]; show ps.length + 1 ≤ _; omega⟩
            rcases List.mem_append.mp hq with c | c
            · exact h3 q c
            · rw [List.mem_singleton.mp c]
              exact ⟨p2, Int.dvd_trans (Int.dvd_of_emod_eq_zero hd) h2⟩
          refine ⟨_, rfl, _, rfl, by rw [List.length_map, sizeLine_eq]; omega, ?_⟩
          rw [e']
          exact k ps' h'
        · exact k ps ⟨h3, by omega⟩
      rotate_left
      intro ps' ⟨h3', h4'⟩
      refine ⟨_, rfl, by decide, by decide, ?_⟩
      refine forD_run (fun _ r => ∃ (M' : Int) (s4 : Sl), r = [.dat (.int N), .own (ps'.map .int), .dat (.int M'), .dat (.int p), s4] ∧ 1 ≤ M' ∧ M' ∣ N) ⟨M, _, rfl, h1, h2⟩ ?_ ?_
      · rintro r ⟨M', s4, rfl, m1, m2⟩
        exact kk _ ⟨ps', M', _, _, rfl, m1, m2, h3', h4'⟩
      · rintro j e r nx2 he2 ⟨M', s4, rfl, m1, m2⟩ k2
        have MN' : M' ≤ N := Int.le_of_dvd (by omega) m2
        refine ⟨_, rfl, .inl ⟨_, rfl, _, rfl, show (0 : Int) < p by omega, shp_int _, shp_int _, _, rfl, ite2 (fun h => ?_) fun _ => ite2 (fun h => absurd h (by decide)) fun _ => k2 _ ⟨M', _, rfl, m1, m2⟩⟩⟩
        have hd : M' % p = 0 := by
          rw [if_neg Bool.false_ne_true, eqd_int, beq_iff_eq] at h
          exact h
        obtain ⟨k, hk⟩ := Int.dvd_of_emod_eq_zero hd
        refine ⟨_, rfl, _, rfl, ite2 (fun h => ?_) fun _ => k2 _ ⟨M', _, rfl, m1, m2⟩⟩
        refine ⟨_, rfl, _, rfl, ⟨by omega, .inr (.inl (ld M' m1 MN'))⟩, ?_⟩
        have ek : M'.fdiv p = k := fdiv_exact (by omega) hk
        have kk1 : 1 ≤ k := by
          rcases Int.lt_or_le k 1 with z | z
          · have := Int.mul_nonpos_of_nonneg_of_nonpos (show (0 : Int) ≤ p by omega) (show k ≤ 0 by omega)
            omega
          · exact z
        exact k2 _ ⟨M'.fdiv p, .dat e, rfl, by rw [ek]; exact kk1, by rw [ek]; exact Int.dvd_trans ⟨p, by rw [hk, Int.mul_comm]⟩ m2⟩
theorem ok_right {tb : List (Addr × Str)} {cd : Value} (T : Txt K mg) {cN cM : Addr} (xs : Xs K mg cN cM) (CA : CodeAt K mg "_law_right" cd) (M : Maker base mg tb cd "_law_right.<locals>.<lambda>") :
    CalldT P wd K mg base tb 12 "_law_right" ["_law_rows", "_law_row"] pRight := by
  refine defT T.d_right CA sc_right ?_ pRight_mo ?_
  · rintro ds Q ⟨m, G, row, rfl, _⟩
    rfl
  · rintro f A outer s0 H E w ds Q hr hG hw hT ⟨m, G, row, rfl, hm, hc, F, hrow, hR, q⟩
    have hM : ∀ w : Wd, w.g.tab = tb → Maker base mg w.g.tab cd "_law_right.<locals>.<lambda>" := fun w e => by rw [e]; exact M
    refine ⟨_, (psd_cons (psd_par (i := 2) (j := 3) (ped_f ((ok_is_held T).up (by decide)) hr hG (pad_cons (ped_var 0) (pad_cons (ped_var 1) pad_nil))) (ped_fL hT tk_none ((okG_raised (tb := tb) T xs).up (by decide)) hr hG (pld_nil (lam_call ((okX_divisor T xs).up (show 9 ≤ 9 by decide)) (hM w hT) (defScope s_right) (tm_cons tm_var (tm_cons tm_var tm_nil)) (fun _ _ _ _ _ _ _ _ => (pad_cons (ped_var 0) (pad_cons (ped_var 1) pad_nil))))) (mo_X pDivX_mo (tm_cons tm_var (tm_cons tm_var tm_nil)))) sc_right.nd)
    (psd_cons (psd_if (ptd_not (ptd_val (ped_f ((ok_alike T).up (by decide)) hr hG (pad_cons (ped_f ((okp_is_held T).up (by decide)) hr hG (pad_cons (ped_var 0) (pad_cons (ped_var 1) pad_nil))) (pad_cons (ped_var 2) pad_nil))))) (psd_one (psd_ret ped_bl)) psd_nil)
    (psd_cons (psd_if (ptd_not (ptd_val (ped_var 2))) (psd_one (psd_ret (ped_f ((ok_alike T).up (by decide)) hr hG (pad_cons (ped_var 3) (pad_cons (ped_tup (pad_cons ped_str (pad_cons (ped_lst (pad_cons ped_int pad_nil)) (pad_cons (ped_lst (pad_cons (ped_var 1) pad_nil)) pad_nil)))) pad_nil))))) psd_nil)
    (psd_cons (psd_set (i := 4) (ped_at (fun _ _ => rfl) (ped_var 3) ped_int) sc_right.nd)
    (psd_cons (psd_if (PWd.pt (pwd_or (ptd_ne hr (ped_at (fun _ _ => rfl) (ped_var 3) ped_int) ped_str) (pwd_or (ptd_not (ptd_val (ped_isi (T := "int") T.m_isinstance (ped_var 4) T.m_int (by decide +kernel)))) (pwd_or (ptd_val (ped_isi (T := "bool") T.m_isinstance (ped_var 4) T.m_bool (by decide +kernel))) (pwd_or1 (ptd_lt (ped_var 4) ped_int)))))) (psd_one (psd_ret ped_bl)) psd_nil)
    (psd_cons (psd_if (ptd_not (ptd_val (ped_f ((ok_is_madeS T).up (by decide)) hr hG (pad_cons (ped_var 0) (pad_cons (ped_tupF T.m_tuple (pad_cons (ped_lc (own := [("_law_part", 6)]) sc_right.nd (pid_tup (ped_var 1)) (blkOk_by (own := [("_law_part", 6)]) (N := N_right) (sc := defScope s_right) (by decide +kernel)) (gd_name 6) (gName_mo 6) (by decide) (fun _ _ _ _ _ => (pg_name (i := 6) sc_right.nd rfl (Or.inl rfl))) (fun _ _ _ _ _ => ptsd_nil) (fun _ _ _ _ _ => (ped_mul (ped_var 4) (ped_var 6))) s0) pad_nil)) pad_nil))))) (psd_one (psd_ret ped_bl)) psd_nil)
    (psd_cons (psd_for (pid_list (ped_f ((ok_primes T).up (by decide)) hr hG (pad_cons (ped_var 4) pad_nil))) (pg_name (i := 5) sc_right.nd rfl (Or.inr rfl)) (gd_name 5) (gName_mo 5)
    (psd_one (psd_if (ptd_val (ped_f ((ok_is_madeS T).up (by decide)) hr hG (pad_cons (ped_var 0) (pad_cons (ped_tupF T.m_tuple (pad_cons (ped_lc (own := [("_law_part", 6)]) sc_right.nd (pid_tup (ped_var 1)) (blkOk_by (own := [("_law_part", 6)]) (N := N_right) (sc := defScope s_right) (by decide +kernel)) (gd_name 6) (gName_mo 6) (by decide) (fun _ _ _ _ _ => (pg_name (i := 6) sc_right.nd rfl (Or.inl rfl))) (fun _ _ _ _ _ => ptsd_nil) (fun _ _ _ _ _ => (ped_mul (ped_fdivZ (ped_var 4) (ped_var 5)) (ped_var 6))) s0) pad_nil)) pad_nil)))) (psd_one (psd_ret ped_bl)) psd_nil)))
    (psd_one (psd_ret ped_bl))))))))), ?_⟩
    have fine : Fine m G := Fine.of (n := 4) (B := 30) (by omega) F.len (by decide) F.sm (by decide) (.inr hc) bd4.1 bd4.2.1
    have sG : ∀ g ∈ G, El.Sm 10 g := fun g hg i => Nat.lt_of_le_of_lt (F.sm g hg i) (by decide)
    have sR : El.Sm 10 row := fun i => Nat.lt_of_le_of_lt (hR i) (by decide)
    have e2 : (10 + 1) * 2 ^ m ≤ 400000 := Nat.le_trans (Nat.mul_le_mul_left _ (Nat.pow_le_pow_right (by decide) hm)) (by decide)
    refine ⟨_, rfl, _, rfl, m, 10, G, row, rfl, by omega, by omega, F.len, hrow, sG, sR, e2, fun hd hHd => ?_⟩
    refine fun v fv hmono hv => ⟨v, _, rfl, hv, rfl, _, rfl, _, rfl, ?_⟩
    dsimp only [dNil]
    have al : ∀ (b : Bool), (b = true ↔ Held (G.map co) (co row)) → b = hd := fun b h => by rw [Bool.eq_iff_iff, h, hHd]
    refine ⟨m, 10, G, row, rfl, by omega, fine, hrow, sR, by decide, fun hn => ⟨rwD row, rfl, noL_rw row, ?_⟩, fun hh N D => ?_⟩
    · have hf : hd = false := Bool.eq_false_iff.mpr fun z => hn (hHd.mp z)
      refine ⟨_, rfl, _, rfl, m, 10, G, row, rfl, by omega, fine, hrow, sR, by decide, fun b hb => ?_⟩
      rw [al b hb]
      refine ⟨_, rfl, .bl hd, 0, 5, rfl, sz_bl _, by decide, by decide, _, rfl, ite2 (fun h => absurd h (by decide)) fun _ => ?_⟩
      subst hf
      refine ⟨_, rfl, _, rfl, ite2 (fun _ => ?_) fun h => absurd rfl h⟩
      refine ⟨_, rfl, show 1 ≤ sizeLine by decide, _, rfl, show 1 ≤ sizeLine by decide, show 3 ≤ sizeLine by decide, _, 3, 50000, rfl, sz_err hrow hm hR, by decide, by decide, q⟩
    · have ht : hd = true := hHd.mpr hh
      refine ⟨_, rfl, _, rfl, m, 10, G, row, rfl, by omega, fine, hrow, sR, by decide, fun b hb => ?_⟩
      rw [al b hb]
      refine ⟨_, rfl, .bl hd, 0, 5, rfl, sz_bl _, by decide, by decide, _, rfl, ite2 (fun h => absurd h (by decide)) fun _ => ?_⟩
      subst ht
      refine ⟨_, rfl, _, rfl, ite2 (fun h => absurd h (by decide)) fun _ => ?_⟩
      refine ⟨_, rfl, .int N, rfl, ?_⟩
      have so : shp (.str "told") = true := shp_told
      have et : ¬ (if true = true then !eqd (.str "told") (.str "told") else eqd (.str "told") (.str "told")) = true := by decide
      have N1 := D.pos
      have N400 : N < 2 ^ 400 := by
        have z := D.small 4 30 (.inr hc) (by decide) F.sm bd4.2.2.1
        have y := bd4.2.2.2
        have e : ((bdP 4 30 : Nat) : Int) ^ 4 = (((bdP 4 30) ^ 4 : Nat) : Int) := by rw [Int.natCast_pow]
        rw [e] at z
        generalize (bdP 4 30) ^ 4 = B at y z
        have y2 : ((B : Nat) : Int) < ((2 ^ 400 : Nat) : Int) := by exact_mod_cast y
        have e2 : ((2 ^ 400 : Nat) : Int) = (2 : Int) ^ 400 := by norm_cast
        omega
      refine ⟨_, rfl, .str "told", rfl, so, so, _, rfl, ite2 (fun h => absurd h et) fun _ => ?_⟩
      refine ⟨_, rfl, _, true, rfl, rfl, _, rfl, ite2 (fun h => absurd h (by decide)) fun _ => ?_⟩
      refine ⟨_, rfl, _, false, rfl, rfl, _, rfl, ite2 (fun h => absurd h (by decide)) fun _ => ?_⟩
      refine ⟨_, rfl, _, rfl, ite2 (fun h => absurd (of_decide_eq_true h) (by omega)) fun _ => ?_⟩
      have mk : ∀ n : Int, 1 ≤ n → n ≤ N → ∀ a ∈ row, CMulA n a := fun n h1 h2 a ha => by
        obtain ⟨j, hj, rfl⟩ := List.mem_iff_getElem.mp ha
        have z := sR j
        rw [co_at hj] at z
        exact mulA (e := 400) (f := 10) (nat400 h1 (by omega)) z (by decide)
      have sN : ∀ n : Int, 1 ≤ n → n ≤ N → El.Sm 1000 (row.map fun a => n * a) := fun n h1 h2 i => by
        rw [co_mulL, Int.natAbs_mul]
        have a1 := nat400 h1 (show n < 2 ^ 400 by omega)
        have a2 := sR i
        exact Nat.lt_of_lt_of_le (Nat.mul_lt_mul'' a1 a2) (by decide)
      refine ⟨_, rfl, _, rfl, _, rfl, ?_⟩
      have tp : ∀ n : Int, (row.map fun a => Da.int (n * a)) = (row.map fun a => n * a).map .int := fun n => by rw [List.map_map]; rfl
      have lr : (row.map fun a => N * a).length = m := by rw [List.length_map]; exact hrow
      refine lcD_mapM Da.int (fun a => Da.int (N * a)) row (by omega) (fun a ha X hX => ⟨_, rfl, _, rfl, mk N N1 (Int.le_refl _) a ha, hX⟩) ?_
      rw [tp]
      refine ⟨_, rfl, .inl ⟨_, rfl, m, G, row.map (fun a => N * a), rfl, hm, by omega, F.len, fun g hg i => F.sm g hg i, lr, sN N N1 (Int.le_refl _), fun c hc2 => ?_⟩⟩
      have lat : ∀ n : Int, Lat (G.map co) (co (row.map fun a => n * a)) ↔ N ∣ n := fun n => by
        rw [show co (row.map fun a => n * a) = fun i => n * co row i from funext fun i => co_mulL]
        exact D.least n
      have c1 : c = true := hc2.mpr ((lat N).mpr ⟨1, by rw [Int.mul_one]⟩)
      subst c1
      refine ⟨_, rfl, ite2 (fun h => absurd h (by decide)) fun _ => ?_⟩
      refine ⟨_, rfl, N, rfl, N1, N400, fun ps hps hpl => ⟨_, rfl, ?_⟩⟩
      refine forD_run (fun _ r => ∃ s5 s6, r = [.dat (.lst (G.map rwD)), .dat (rwD row), .dat (.bl true), .dat (.tup [.str "told", .int N]), .dat (.int N), s5, s6]) ⟨_, _, rfl⟩ ?_ ?_
      · rintro r ⟨s5, s6, rfl⟩
        exact q
      · rintro i e r nx he ⟨s5, s6, rfl⟩ kk
        rw [List.getElem?_map] at he
        obtain ⟨x, hx, rfl⟩ := Option.map_eq_some_iff.mp he
        obtain ⟨x2, k, hk⟩ := hps x (List.mem_of_getElem? hx)
        have ek : N.fdiv x = k := fdiv_exact (by omega) hk
        have k1 : 1 ≤ k := by
          rcases Int.lt_or_le k 1 with z | z
          · have := Int.mul_nonpos_of_nonneg_of_nonpos (show (0 : Int) ≤ x by omega) (show k ≤ 0 by omega)
            omega
          · exact z
        have k2 : k < N := by
          have := Int.mul_le_mul_of_nonneg_right x2 (show (0 : Int) ≤ k by omega)
          omega
        have hk2 : k ≤ N := by omega
        refine ⟨_, rfl, _, rfl, _, rfl, ?_⟩
        refine lcD_mapM Da.int (fun a => Da.int (k * a)) row (by omega) (fun a ha X hX => ?_) ?_
        · refine ⟨_, rfl, _, rfl, ⟨by omega, .inr (.inl ?_)⟩, _, rfl, ?_⟩
          · exact Nat.lt_trans (log_pow (nat400 N1 N400) (by decide)) (by decide)
          · show CMulA (N.fdiv x) a ∧ X (.int (N.fdiv x * a))
            rw [ek]
            exact ⟨mk k k1 hk2 a ha, hX⟩
        rw [tp]
        refine ⟨_, rfl, .inl ⟨_, rfl, m, G, row.map (fun a => k * a), rfl, hm, by omega, F.len, fun g hg i => F.sm g hg i, by rw [List.length_map]; exact hrow, sN k k1 hk2, fun c hc3 => ?_⟩⟩
        have c0 : c = false := Bool.eq_false_iff.mpr fun z => by
          have d := (lat k).mp (hc3.mp z)
          have := Int.le_of_dvd (by omega) d
          omega
        subst c0
        refine ⟨_, rfl, ite2 (fun h => absurd h (by decide)) fun _ => kk _ ⟨_, _, rfl⟩⟩
end
end K23
namespace K23
open PySem PySem.Spec PyProof.Rows L2 Pd El Rw
theorem rep_zero : ∀ m : Nat, (List.replicate m [Da.int 0]).flatten = (List.replicate m (0 : Int)).map .int
  | 0 => rfl
  | m + 1 => by rw [List.replicate_succ, List.flatten_cons, rep_zero m, List.replicate_succ, List.map_cons]; rfl
theorem joinK2 {α β : Type} {H : α → β → Prop} {G : Prop} (M : α → β → Prop) (k : ∀ x y, H x y → M x y) (a : (∀ x y, H x y → M x y) → G) : G := a k
section
variable {P : Program} {wd : World} {K : PySem.W.Frag} {mg : Str → Option Value} {base : Heap}
theorem okp_divisor (T : Txt K mg) {cN cM : Addr} (xs : Xs K mg cN cM) : Calld P wd K mg base 9 "divisor" ["rows", "row"] (fun ds Q => ∃ (m a : Nat) (G : List (List Int)) (row : List Int), ds = [.lst (G.map rwD), rwD row] ∧ m ≤ 63 ∧ Fine m G ∧ row.length = m ∧ El.Sm a row ∧ a ≤ 100000 ∧ Held (G.map co) (co row) ∧ ∀ N, Dvs m G row N → Q (.int N)) := by
  refine defC T.dp_divisor scp_divisor ?_ (fun _ _ _ q ⟨m, a, G, row, h1, h2, h3, h4, h5, h6, h7, z⟩ => ⟨m, a, G, row, h1, h2, h3, h4, h5, h6, h7, fun N d => q _ (z N d)⟩) ?_
  · rintro ds Q ⟨m, a, G, row, rfl, _⟩
    rfl
  · rintro f cdv A outer s0 H E w ds Q hr hG ⟨m, a, G, row, rfl, hm, fw, hrow, hsm, ha, hh, q⟩
    refine ⟨_, psd_cons (psd_asg (ped_f ((okp_cleared T).up (by decide)) hr hG (pad_cons (ped_var 0) (pad_cons (ped_var 1) pad_nil))) (pg_tup rfl (pgs_cons (pg_name (i := 2) scp_divisor.nd rfl (Or.inl rfl)) (pgs_cons (pg_name (i := 3) scp_divisor.nd rfl (Or.inl rfl)) pgs_nil))) (gd_tup2 2 3) (gTup_mo (gCons_mo (gName_mo 2) (gCons_mo (gName_mo 3) gNil_mo)))) (psd_cons (psd_if (ptd_val (ped_anyI T.m_any (pad_cons (ped_var 3) pad_nil))) (psd_one psd_raise) psd_nil) (psd_one (psd_ret (ped_var 2)))), ?_⟩
    refine ⟨_, rfl, _, rfl, m, a, G, row, rfl, hm, fw, hrow, hsm, ha, fun ms N l H' C' => ⟨_, _, rfl, _, rfl, l, rfl, _, rfl, ?_⟩⟩
    have z := (C'.held H'.ech).mpr ((held_same H').mpr hh)
    have e : (l.any fun n => n != 0) = false := List.any_eq_false.mpr fun x hx => by
      obtain ⟨j, hj, rfl⟩ := List.mem_iff_getElem.mp hx
      rw [← co_at hj, z j]
      decide
    rw [e]
    exact ite2 (fun h => absurd h Bool.false_ne_true) fun _ => ⟨_, rfl, q N (dvs_of H' C' hrow z)⟩
abbrev N_bag : List Str := ["_law_script", "_law_cell"]
theorem sc_bag : FnScope N_bag ["_law_script"] (defScope s_bag) := ⟨rfl, rfl, rfl, by decide +kernel, rfl, by decide +kernel, by decide +kernel⟩
abbrev sp_law : Stmt := topS 35
abbrev Np_law : List Str := ["_law_script", "_law_bag_here", "_law_turn", "_law_many", "_law_top", "_law_rows", "_law_kept", "_law_k", "_law_row", "_law_whole", "_law_one_here", "_law_part", "_law_at"]
theorem scp_law : FnScope Np_law ["_law_script"] (defScope sp_law) := ⟨rfl, rfl, rfl, by decide +kernel, rfl, by decide +kernel, by decide +kernel⟩
theorem ok_bag {f : Addr} {fd : FuncData} (F : Fun K "_law_bag" "_law_bag" s_bag f fd) (ma : mg "abs" = none) : FnG P wd K mg base CX0 1 f fd ["_law_script"] (spBag K) := by
  refine FunG.ok F sc_bag ?_ ?_
  · rintro vs H Q E ⟨a, ns, rfl, _⟩
    rfl
  · rintro cdv A outer s0 H vs Q E hr hG pre
    exact ⟨_, pss_one (ps_ret (pe_lst (pa_cons pe_int (pa_cons pe_int (pa_cons pe_int (pa_cons
      (pe_lc (own := [("_law_cell", 1)]) (g := gName 1) (tt := tYes) rfl sc_bag.nd (pi_list (pe_slice sl_list (pv 0) po_none (po_some pe_int))) (blkOk_by (own := [("_law_cell", 1)]) (N := N_bag) (sc := defScope s_bag) (by decide +kernel))
        (fun _ _ _ _ _ => pg_name (i := 1) sc_bag.nd rfl (Or.inl rfl)) (fun _ _ _ _ _ => pts_nil) (fun _ _ _ _ _ => pe_callB call_abs (by rfl) ma (by decide +kernel) (pa_cons (pv 1) pa_nil)))
      pa_nil)))))), bag_read K vs H Q E pre _ rfl⟩
theorem ok_law {tb : List (Addr × Str)} (hb : ∃ o, base.get? sysModules = some o) {cN cM : Addr} (xs : Xs K mg cN cM) {d1 : Value} (C1 : CodeAt K mg "_law_right" d1) (M1 : Maker base mg tb d1 "_law_right.<locals>.<lambda>") {f fB : Addr} {fd fdB : FuncData} (F : Fun K "law" "law" sp_law f fd) (FB : Fun K "_law_bag" "_law_bag" s_bag fB fdB) (gB : mg "_law_bag" = some (.ref fB)) (bB : Binds K fdB ["_law_script"] []) (ma : mg "abs" = none) (T : Txt K mg) :
    FnG P wd K mg base CX0 15 f fd ["_law_script"] (spLawT K tb) := by
  refine lawGT tb (n := 11) (names := ["_law_turn", "_law_many", "_law_top", "_law_rows", "_law_kept", "_law_k", "_law_row", "_law_whole", "_law_one_here", "_law_part", "_law_at"]) F scp_law rfl rfl ?_
  intro cdv A outer s0 H E hcd hr hG
  refine ⟨_, ps_set (i := 1) scp_law.nd rfl (.inr rfl) (pe_callG (ok_bag FB ma) (hr.mono (by decide)) hG (by rfl) gB FB.kp bB .nil pass0 (pa_cons (pv 0) pa_nil)), fun w hT => (psd_cons (psd_for (pid_range T.m_range ped_int) (pg_name (i := 2) scp_law.nd rfl (Or.inl rfl)) (gd_name 2) (gName_mo 2)
    (psd_cons (psd_par (i := 3) (j := 4) (ped_add ped_int (ped_f ((ok_take T).up (by decide)) hr hG (pad_cons (ped_var 1) (pad_cons ped_int pad_nil)))) (ped_f ((ok_one T).up (by decide)) hr hG (pad_cons (ped_var 1) (pad_cons (ped_lst (pad_cons ped_int (pad_cons ped_int (pad_cons ped_int pad_nil)))) pad_nil))) scp_law.nd)
    (psd_cons (psd_if (ptd_eq hr (ped_f ((ok_take T).up (by decide)) hr hG (pad_cons (ped_var 1) (pad_cons ped_int pad_nil))) ped_int) (psd_one (psd_asg (ped_tup (pad_cons ped_int (pad_cons ped_int pad_nil))) (pg_tup rfl (pgs_cons (pg_name (i := 3) scp_law.nd rfl (Or.inl rfl)) (pgs_cons (pg_name (i := 4) scp_law.nd rfl (Or.inl rfl)) pgs_nil))) (gd_tup2 3 4) (gTup_mo (gCons_mo (gName_mo 3) (gCons_mo (gName_mo 4) gNil_mo))))) psd_nil)
    (psd_cons (psd_set (i := 5) (ped_slice (ped_f ((ok_some_rows T).up (by decide)) hr hG (pad_cons (ped_var 1) (pad_cons (ped_var 3) (pad_cons (ped_var 4) pad_nil)))) pod_none (pod_some ped_int)) scp_law.nd)
    (psd_cons (psd_set (i := 6) (ped_lstF T.m_list (pad_cons (ped_var 5) pad_nil)) scp_law.nd)
    (psd_one (psd_for (pid_range T.m_range ped_int) (pg_name (i := 7) scp_law.nd rfl (Or.inl rfl)) (gd_name 7) (gName_mo 7)
    (psd_cons (psd_set (i := 8) (ped_f ((ok_mixture T).up (by decide)) hr hG (pad_cons (ped_var 5) (pad_cons (ped_lc (own := [("_law_one_here", 10)]) scp_law.nd (pid_list (ped_var 5)) (blkOk_by (own := [("_law_one_here", 10)]) (N := Np_law) (sc := defScope sp_law) (by decide +kernel)) (gd_name 10) (gName_mo 10) (by decide) (fun _ _ _ _ _ => (pg_name (i := 10) scp_law.nd rfl (Or.inl rfl))) (fun _ _ _ _ _ => ptsd_nil) (fun _ _ _ _ _ => (ped_sub (ped_f ((ok_take T).up (by decide)) hr hG (pad_cons (ped_var 1) (pad_cons ped_int pad_nil))) ped_int)) s0) (pad_cons (ped_var 3) pad_nil)))) scp_law.nd)
    (psd_cons (psd_set (i := 9) (ped_max2 T.m_max (pad_cons ped_int (pad_cons (ped_f ((ok_shared T).up (by decide)) hr hG (pad_cons (ped_var 8) pad_nil)) pad_nil))) scp_law.nd)
    (psd_cons (psd_set (i := 8) (ped_tupF T.m_tuple (pad_cons (ped_lc (own := [("_law_part", 11)]) scp_law.nd (pid_tup (ped_var 8)) (blkOk_by (own := [("_law_part", 11)]) (N := Np_law) (sc := defScope sp_law) (by decide +kernel)) (gd_name 11) (gName_mo 11) (by decide) (fun _ _ _ _ _ => (pg_name (i := 11) scp_law.nd rfl (Or.inl rfl))) (fun _ _ _ _ _ => ptsd_nil) (fun _ _ _ _ _ => (ped_fdivZ (ped_var 11) (ped_var 9))) s0) pad_nil)) scp_law.nd)
    (psd_cons (psd_if (ptd_eq hr (ped_f ((ok_take T).up (by decide)) hr hG (pad_cons (ped_var 1) (pad_cons ped_int pad_nil))) ped_int) (psd_one (psd_set (i := 8) (ped_tupF T.m_tuple (pad_cons (ped_lc (own := [("_law_at", 12)]) scp_law.nd (pid_range T.m_range (ped_var 3)) (blkOk_by (own := [("_law_at", 12)]) (N := Np_law) (sc := defScope sp_law) (by decide +kernel)) (gd_name 12) (gName_mo 12) (by decide) (fun _ _ _ _ _ => (pg_name (i := 12) scp_law.nd rfl (Or.inl rfl))) (fun _ _ _ _ _ => ptsd_nil) (fun _ _ _ _ _ => (ped_sub (ped_f ((ok_take T).up (by decide)) hr hG (pad_cons (ped_var 1) (pad_cons ped_int pad_nil))) ped_int)) s0) pad_nil)) scp_law.nd)) psd_nil)
    (psd_one (psd_if (PWd.pt (pwd_or (ptd_not (ptd_val (ped_fT hT ((ok_right T xs C1 M1).up (by decide)) hr hG (pad_cons (ped_var 5) (pad_cons (ped_var 8) pad_nil))))) (pwd_or (ptd_not (ptd_val (ped_f ((ok_alike T).up (by decide)) hr hG (pad_cons (ped_f ((okp_divisor T xs).up (by decide)) hr hG (pad_cons (ped_var 5) (pad_cons (ped_repT (ped_tup (pad_cons ped_int pad_nil)) (ped_var 3)) pad_nil))) (pad_cons ped_int pad_nil))))) (pwd_or1 (ptd_ne hr (ped_var 5) (ped_var 6)))))) (psd_one (psd_ret ped_bl)) psd_nil)))))))))))))
    (psd_one (psd_ret ped_bl))), ?_⟩
  refine ⟨_, rfl, by decide, by decide, ?_⟩
  refine forD_run (fun _ r => ∃ s2 s3 s4 s5 s6 s7 s8 s9 s10 s11 s12, r = [.no, .dat .bag, s2, s3, s4, s5, s6, s7, s8, s9, s10, s11, s12]) ⟨_, _, _, _, _, _, _, _, _, _, _, rfl⟩ ?_ ?_
  · rintro r ⟨s2, s3, s4, s5, s6, s7, s8, s9, s10, s11, s12, rfl⟩
    exact rfl
  · rintro i d r nx hd ⟨s2, s3, s4, s5, s6, s7, s8, s9, s10, s11, s12, rfl⟩ kk
    apply joinK2 (H := fun (m : Nat) (top : Int) => m ≤ 6 ∧ 1 ≤ top ∧ top ≤ 30)
    case a =>
      intro k
      refine ⟨_, rfl, _, rfl, by decide, by decide, fun r1 b1 b2 => ?_⟩
      obtain ⟨m, em⟩ : ∃ m : Nat, (1 : Int) + r1 = (m : Nat) := ⟨(1 + r1).toNat, by omega⟩
      unfold addD
      dsimp only
      rw [em]
      refine ⟨_, rfl, show 3 ≤ sizeLine by decide, _, [.int 1, .int 2, .int 3], rfl, rfl, rfl, by simp, by show 3 ≤ 63; decide, fun e he => ?_⟩
      obtain ⟨top, rfl, t1, t2⟩ : ∃ top : Int, e = .int top ∧ 1 ≤ top ∧ top ≤ 30 := by
        rcases List.mem_cons.mp he with h | he
        · exact ⟨1, h, by decide, by decide⟩
        · rcases List.mem_cons.mp he with h | he
          · exact ⟨2, h, by decide, by decide⟩
          · exact ⟨3, List.mem_singleton.mp he, by decide, by decide⟩
      refine ⟨_, rfl, _, rfl, by decide, by decide, fun r2 c1 c2 => ⟨shp_int _, shp_int _, _, rfl, ite2 (fun _ => ?_) fun _ => ?_⟩⟩
      rotate_left
      · exact k m top ⟨by omega, t1, t2⟩
      · exact ⟨show 2 ≤ sizeLine by decide, _, _, rfl, k 6 30 ⟨by decide, by decide, by decide⟩⟩
    rotate_left
    intro m top ⟨hm, t1, t2⟩
    refine ⟨_, rfl, _, rfl, _, rfl, m, top, rfl, hm, t1, t2, fun G0 F0 => ?_⟩
    dsimp only [dNoP, dPart, dC, slD]
    refine ⟨4, rfl, ?_⟩
    have ec : Pd.cutD (G0.map rwD) none (some (4 : Int)) = (G0.take 4).map rwD := by
      rw [show (some (4 : Int)) = some ((4 : Nat) : Int) from rfl, cutD_to, List.map_take]
    rw [ec]
    obtain ⟨G, eG, hc, F⟩ : ∃ G : List (List Int), G0.take 4 = G ∧ G.length ≤ 4 ∧ Few m G := ⟨_, rfl, by rw [List.length_take]; omega, ⟨by rw [List.length_take]; omega, fun g hg => F0.len g (List.mem_of_mem_take hg), fun g hg => F0.sm g (List.mem_of_mem_take hg)⟩⟩
    rw [eG]
    have fine : Fine m G := Fine.of (n := 4) (B := 30) (by omega) F.len (by decide) F.sm (by decide) (.inr hc) bd4.1 bd4.2.1
    have szG : Sz (.lst (G.map rwD)) 2 1600000 := sz_rwsE (e := 5) (by omega) (fun g hg => by rw [F.len g hg]; omega) (fun g hg i => Nat.lt_of_le_of_lt (F.sm g hg i) (by decide)) (by decide) (by decide)
    refine ⟨_, rfl, _, _, rfl, rfl, ?_⟩
    refine ⟨_, rfl, by decide, by decide, ?_⟩
    refine forD_run (fun _ r => ∃ s7 s8 s9 s10 s11 s12, r = [.no, .dat .bag, .dat d, .dat (.int (m : Nat)), .dat (.int top), .dat (.lst (G.map rwD)), .dat (.lst (G.map rwD)), s7, s8, s9, s10, s11, s12]) ⟨_, _, _, _, _, _, rfl⟩ ?_ ?_
    · rintro r ⟨s7, s8, s9, s10, s11, s12, rfl⟩
      exact kk _ ⟨_, _, _, _, _, _, _, _, _, _, _, rfl⟩
    · rintro j e r nx2 he ⟨s7, s8, s9, s10, s11, s12, rfl⟩ k2
      refine ⟨_, rfl, _, rfl, _, rfl, ?_⟩
      refine lcD_all0 (fun _ y => ∃ z : Int, y = .int z ∧ z.natAbs ≤ 4) (G.map rwD) (by rw [List.length_map]; omega) (fun d2 hd2 R hR => ⟨_, rfl, _, rfl, by decide, by decide, fun z z0 z1 => ⟨True.intro, hR _ ⟨_, rfl, ?_⟩⟩⟩) fun cs hcs => ?_
      · show (z - 4).natAbs ≤ 4
        omega
      have lc : cs.length = G.length := by rw [(Paired.length hcs).symm, List.length_map]
      obtain ⟨c, rfl, hcc⟩ := all_ints (F := fun z => z.natAbs ≤ 4) (ys := cs) fun y hy' => by
        obtain ⟨d, _, z⟩ := paired_right hcs y hy'
        exact z
      rw [List.length_map] at lc
      have cb : ∀ k, (co c k).natAbs ≤ 4 := fun k => by
        by_cases h : k < c.length
        · exact hcc _ (co_mem h)
        · rw [co_out (by omega)]; decide
      refine ⟨_, rfl, m, 3, G, c, rfl, by omega, by omega, lc, F.len, F.sm, fun k => Nat.lt_of_le_of_lt (cb k) (by decide), by decide, fun r lr hr => ?_⟩
      have rb : ∀ i, (co r i).natAbs ≤ 480 := fun i => by
        by_cases h : i < m
        · rw [hr i h]
          have := mixF_bound G (co c) i 4 30 cb fun g hg => F.sm g hg i
          omega
        · rw [co_out (by omega)]; decide
      refine ⟨_, rfl, rwD r, r, rfl, .inr rfl, by omega, fun a ha => ?_, 1, _, rfl, ?_⟩
      · obtain ⟨j, hj, rfl⟩ := List.mem_iff_getElem.mp ha
        rw [← co_at hj]
        exact Nat.lt_of_le_of_lt (rb j) (by decide)
      obtain ⟨W, eW, w1⟩ : ∃ W : Int, (if ((gcdL r : Nat) : Int) > 1 then ((gcdL r : Nat) : Int) else 1) = W ∧ 1 ≤ W := ⟨_, rfl, by split <;> omega⟩
      rw [eW]
      have fb : ∀ a : Int, (a.fdiv W).natAbs ≤ a.natAbs := fun a => by
        rw [Int.fdiv_eq_ediv_of_nonneg _ (show (0 : Int) ≤ W by omega)]
        exact Int.natAbs_ediv_le_natAbs a W
      refine ⟨_, rfl, _, rfl, ?_⟩
      refine lcD_mapM Da.int (fun a => Da.int (a.fdiv W)) r (by omega) (fun a ha X hX => ⟨_, rfl, _, rfl, ⟨by omega, .inr (.inl ?_)⟩, hX⟩) ?_
      · obtain ⟨j, hj, rfl⟩ := List.mem_iff_getElem.mp ha
        rw [← co_at hj]
        exact Nat.lt_of_le_of_lt (Nat.le_trans (Nat.log2_le_self _) (rb j)) (by decide)
      have ew : r.map (fun a => Da.int (a.fdiv W)) = (r.map fun a => a.fdiv W).map .int := by rw [List.map_map]; rfl
      rw [ew]
      refine ⟨_, rfl, .inl ⟨_, rfl, ?_⟩⟩
      apply joinK (H := fun row : List Int => row.length = m ∧ ∀ i, (co row i).natAbs ≤ 1000)
      case a =>
        intro k
        refine ⟨_, rfl, _, rfl, by decide, by decide, fun r2 c1 c2 => ⟨shp_int _, shp_int _, _, rfl, ite2 (fun _ => ?_) fun _ => ?_⟩⟩
        · refine ⟨_, rfl, _, rfl, by omega, by omega, ?_⟩
          refine lcD_all0 (fun _ y => ∃ z : Int, y = .int z ∧ z.natAbs ≤ 2) (rngD ((m : Nat) : Int).toNat) (by rw [rngD_len, Int.toNat_natCast]; omega) (fun d2 hd2 R hR => ⟨_, rfl, _, rfl, by decide, by decide, fun z z0 z1 => ⟨True.intro, hR _ ⟨_, rfl, ?_⟩⟩⟩) fun zs hzs => ?_
          · show (z - 2).natAbs ≤ 2
            omega
          have lz : zs.length = m := by rw [(Paired.length hzs).symm, rngD_len, Int.toNat_natCast]
          obtain ⟨x, rfl, hx⟩ := all_ints (F := fun z => z.natAbs ≤ 2) (ys := zs) fun y hy' => by
            obtain ⟨d, _, z⟩ := paired_right hzs y hy'
            exact z
          rw [List.length_map] at lz
          refine ⟨_, rfl, .inl ⟨_, rfl, ?_⟩⟩
          refine k x ⟨lz, fun i => ?_⟩
          by_cases h : i < x.length
          · have := hx _ (co_mem h)
            omega
          · rw [co_out (by omega)]; decide
        · refine k (r.map fun a => a.fdiv W) ⟨by rw [List.length_map]; exact lr, fun i => ?_⟩
          by_cases h : i < r.length
          · rw [co_at (by rw [List.length_map]; exact h), List.getElem_map]
            have z := rb i
            rw [co_at h] at z
            exact Nat.le_trans (fb _) (Nat.le_trans z (by decide))
          · rw [co_out (by rw [List.length_map]; omega)]; decide
      rotate_left
      intro row ⟨hrow, hR⟩
      refine ⟨_, rfl, _, rfl, m, G, row, rfl, hm, hc, F, hrow, hR, _, rfl, ite2 (fun h => absurd h (by decide)) fun _ => ?_⟩
      refine ⟨_, rfl, show 1 ≤ sizeLine by decide, _, rfl, [.int 0], ((m : Nat) : Int), rfl, rfl, by simp, by omega, by omega, show 1 ≤ 1000 by decide, ?_⟩
      rw [Int.toNat_natCast]
      have ez := rep_zero m
      rw [ez]
      have cz : co (List.replicate m (0 : Int)) = fun _ => 0 := funext fun i => by
        by_cases c : i < (List.replicate m (0 : Int)).length
        · rw [co_at c, List.getElem_replicate]
        · rw [co_out (by omega)]
      refine ⟨m, 1, G, List.replicate m 0, rfl, by omega, fine, List.length_replicate, fun i => by rw [cz]; show (0 : Int).natAbs < 2 ^ 1; decide, by decide, ?_, fun N D => ?_⟩
      · rw [cz]
        exact ⟨1, by decide, by simpa using (Lat.zero : Lat (G.map co) fun _ => 0)⟩
      · have e1 : N = 1 := by
          have d : N ∣ 1 := (D.least 1).mp (by rw [cz]; simpa using (Lat.zero : Lat (G.map co) fun _ => 0))
          have p := D.pos
          have := Int.le_of_dvd (by decide) d
          omega
        subst e1
        refine ⟨_, 0, 1921, rfl, sz_int (by decide), by decide, by decide, _, rfl, ite2 (fun h => absurd h (by decide)) fun _ => ?_⟩
        refine ⟨_, rfl, _, rfl, szG.shp (by decide), szG.shp (by decide), _, rfl, ?_⟩
        rw [if_pos rfl, eqd_refl szG]
        exact ite2 (fun h => absurd h (by decide)) fun _ => k2 _ ⟨_, _, _, _, _, _, rfl⟩
end
end K23
namespace K23
open PySem PySem.Spec PyProof.Rows L2 Pd
theorem all_mk {l : PySem.W.OpenLaw} {w : World} {K : PySem.W.Frag} {h : Heap} {mg : Str → Option Value} {fa cN cM cL1 PL1 fp_taken fp_times fp_first_place fp_less fp_joined fp_lowered fp_with_row fp_steps fp_cleared fp_is_held fp_divisor f_bag f_take f_alike f_one f_mixture f_less f_cut f_rank f_is_held f_steps f_is_made f_shared f_some_rows f_raised f_primes f_right fp_law : Addr} (X : K.In h) (G : h.Ns mainGlobals mg) (hfa : mg "law" = some (.ref fa))
    {odp_taken anp_taken : Option Addr} {slp_taken : Array (Option Value)} {ocp_taken kVp_taken dcp_taken pmp_taken cdp_taken ctp_taken : Value}
    {odp_times anp_times : Option Addr} {slp_times : Array (Option Value)} {ocp_times kVp_times dcp_times pmp_times cdp_times ctp_times : Value}
    {odp_first_place anp_first_place : Option Addr} {slp_first_place : Array (Option Value)} {ocp_first_place kVp_first_place dcp_first_place pmp_first_place cdp_first_place ctp_first_place : Value}
    {odp_less anp_less : Option Addr} {slp_less : Array (Option Value)} {ocp_less kVp_less dcp_less pmp_less cdp_less ctp_less : Value}
    {odp_joined anp_joined : Option Addr} {slp_joined : Array (Option Value)} {ocp_joined kVp_joined dcp_joined pmp_joined cdp_joined ctp_joined : Value}
    {odp_lowered anp_lowered : Option Addr} {slp_lowered : Array (Option Value)} {ocp_lowered kVp_lowered dcp_lowered pmp_lowered cdp_lowered ctp_lowered : Value}
    {odp_with_row anp_with_row : Option Addr} {slp_with_row : Array (Option Value)} {ocp_with_row kVp_with_row dcp_with_row pmp_with_row cdp_with_row ctp_with_row : Value}
    {odp_steps anp_steps : Option Addr} {slp_steps : Array (Option Value)} {ocp_steps kVp_steps dcp_steps pmp_steps cdp_steps ctp_steps : Value}
    {odp_cleared anp_cleared : Option Addr} {slp_cleared : Array (Option Value)} {ocp_cleared kVp_cleared dcp_cleared pmp_cleared cdp_cleared ctp_cleared : Value}
    {odp_is_held anp_is_held : Option Addr} {slp_is_held : Array (Option Value)} {ocp_is_held kVp_is_held dcp_is_held pmp_is_held cdp_is_held ctp_is_held : Value}
    {odp_divisor anp_divisor : Option Addr} {slp_divisor : Array (Option Value)} {ocp_divisor kVp_divisor dcp_divisor pmp_divisor cdp_divisor ctp_divisor : Value}
    {od_bag an_bag : Option Addr} {sl_bag : Array (Option Value)} {oc_bag kV_bag dc_bag pm_bag cd_bag ct_bag : Value}
    {od_take an_take : Option Addr} {sl_take : Array (Option Value)} {oc_take kV_take dc_take pm_take cd_take ct_take : Value}
    {od_alike an_alike : Option Addr} {sl_alike : Array (Option Value)} {oc_alike kV_alike dc_alike pm_alike cd_alike ct_alike : Value}
    {od_one an_one : Option Addr} {sl_one : Array (Option Value)} {oc_one kV_one dc_one pm_one cd_one ct_one : Value}
    {od_mixture an_mixture : Option Addr} {sl_mixture : Array (Option Value)} {oc_mixture kV_mixture dc_mixture pm_mixture cd_mixture ct_mixture : Value}
    {od_less an_less : Option Addr} {sl_less : Array (Option Value)} {oc_less kV_less dc_less pm_less cd_less ct_less : Value}
    {od_cut an_cut : Option Addr} {sl_cut : Array (Option Value)} {oc_cut kV_cut dc_cut pm_cut cd_cut ct_cut : Value}
    {od_rank an_rank : Option Addr} {sl_rank : Array (Option Value)} {oc_rank kV_rank dc_rank pm_rank cd_rank ct_rank : Value}
    {od_is_held an_is_held : Option Addr} {sl_is_held : Array (Option Value)} {oc_is_held kV_is_held dc_is_held pm_is_held cd_is_held ct_is_held : Value}
    {od_steps an_steps : Option Addr} {sl_steps : Array (Option Value)} {oc_steps kV_steps dc_steps pm_steps cd_steps ct_steps : Value}
    {od_is_made an_is_made : Option Addr} {sl_is_made : Array (Option Value)} {oc_is_made kV_is_made dc_is_made pm_is_made cd_is_made ct_is_made : Value}
    {od_shared an_shared : Option Addr} {sl_shared : Array (Option Value)} {oc_shared kV_shared dc_shared pm_shared cd_shared ct_shared : Value}
    {od_some_rows an_some_rows : Option Addr} {sl_some_rows : Array (Option Value)} {oc_some_rows kV_some_rows dc_some_rows pm_some_rows cd_some_rows ct_some_rows : Value}
    {od_raised an_raised : Option Addr} {sl_raised : Array (Option Value)} {oc_raised kV_raised dc_raised pm_raised cd_raised ct_raised : Value}
    {od_primes an_primes : Option Addr} {sl_primes : Array (Option Value)} {oc_primes kV_primes dc_primes pm_primes cd_primes ct_primes : Value}
    {od_right an_right : Option Addr} {sl_right : Array (Option Value)} {oc_right kV_right dc_right pm_right cd_right ct_right : Value}
    {odp_law anp_law : Option Addr} {slp_law : Array (Option Value)} {ocp_law kVp_law dcp_law pmp_law cdp_law ctp_law : Value}
    (ap_taken : PySem.W.nsIn K mainGlobals "taken" = some (some (.ref fp_taken)))
    (lp_taken : K.lookup fp_taken = some ⟨ocp_taken, odp_taken, .func (PySem.W.fnOf "taken" "taken" (defArgs sp_taken) (defBody sp_taken) (defScope sp_taken) .none kVp_taken dcp_taken pmp_taken anp_taken cdp_taken ctp_taken), slp_taken⟩)
    (cp_taken : PySem.W.codeIn K cdp_taken "taken" = true) (kp_taken : PySem.W.keepIn K (.ref fp_taken) = true)
    (ap_times : PySem.W.nsIn K mainGlobals "times" = some (some (.ref fp_times)))
    (lp_times : K.lookup fp_times = some ⟨ocp_times, odp_times, .func (PySem.W.fnOf "times" "times" (defArgs sp_times) (defBody sp_times) (defScope sp_times) .none kVp_times dcp_times pmp_times anp_times cdp_times ctp_times), slp_times⟩)
    (cp_times : PySem.W.codeIn K cdp_times "times" = true) (kp_times : PySem.W.keepIn K (.ref fp_times) = true)
    (ap_first_place : PySem.W.nsIn K mainGlobals "first_place" = some (some (.ref fp_first_place)))
    (lp_first_place : K.lookup fp_first_place = some ⟨ocp_first_place, odp_first_place, .func (PySem.W.fnOf "first_place" "first_place" (defArgs sp_first_place) (defBody sp_first_place) (defScope sp_first_place) .none kVp_first_place dcp_first_place pmp_first_place anp_first_place cdp_first_place ctp_first_place), slp_first_place⟩)
    (cp_first_place : PySem.W.codeIn K cdp_first_place "first_place" = true) (kp_first_place : PySem.W.keepIn K (.ref fp_first_place) = true)
    (ap_less : PySem.W.nsIn K mainGlobals "_less" = some (some (.ref fp_less)))
    (lp_less : K.lookup fp_less = some ⟨ocp_less, odp_less, .func (PySem.W.fnOf "_less" "_less" (defArgs sp_less) (defBody sp_less) (defScope sp_less) .none kVp_less dcp_less pmp_less anp_less cdp_less ctp_less), slp_less⟩)
    (cp_less : PySem.W.codeIn K cdp_less "_less" = true) (kp_less : PySem.W.keepIn K (.ref fp_less) = true)
    (ap_joined : PySem.W.nsIn K mainGlobals "_joined" = some (some (.ref fp_joined)))
    (lp_joined : K.lookup fp_joined = some ⟨ocp_joined, odp_joined, .func (PySem.W.fnOf "_joined" "_joined" (defArgs sp_joined) (defBody sp_joined) (defScope sp_joined) .none kVp_joined dcp_joined pmp_joined anp_joined cdp_joined ctp_joined), slp_joined⟩)
    (cp_joined : PySem.W.codeIn K cdp_joined "_joined" = true) (kp_joined : PySem.W.keepIn K (.ref fp_joined) = true)
    (ap_lowered : PySem.W.nsIn K mainGlobals "_lowered" = some (some (.ref fp_lowered)))
    (lp_lowered : K.lookup fp_lowered = some ⟨ocp_lowered, odp_lowered, .func (PySem.W.fnOf "_lowered" "_lowered" (defArgs sp_lowered) (defBody sp_lowered) (defScope sp_lowered) .none kVp_lowered dcp_lowered pmp_lowered anp_lowered cdp_lowered ctp_lowered), slp_lowered⟩)
    (cp_lowered : PySem.W.codeIn K cdp_lowered "_lowered" = true) (kp_lowered : PySem.W.keepIn K (.ref fp_lowered) = true)
    (ap_with_row : PySem.W.nsIn K mainGlobals "_with_row" = some (some (.ref fp_with_row)))
    (lp_with_row : K.lookup fp_with_row = some ⟨ocp_with_row, odp_with_row, .func (PySem.W.fnOf "_with_row" "_with_row" (defArgs sp_with_row) (defBody sp_with_row) (defScope sp_with_row) .none kVp_with_row dcp_with_row pmp_with_row anp_with_row cdp_with_row ctp_with_row), slp_with_row⟩)
    (cp_with_row : PySem.W.codeIn K cdp_with_row "_with_row" = true) (kp_with_row : PySem.W.keepIn K (.ref fp_with_row) = true)
    (ap_steps : PySem.W.nsIn K mainGlobals "steps" = some (some (.ref fp_steps)))
    (lp_steps : K.lookup fp_steps = some ⟨ocp_steps, odp_steps, .func (PySem.W.fnOf "steps" "steps" (defArgs sp_steps) (defBody sp_steps) (defScope sp_steps) .none kVp_steps dcp_steps pmp_steps anp_steps cdp_steps ctp_steps), slp_steps⟩)
    (cp_steps : PySem.W.codeIn K cdp_steps "steps" = true) (kp_steps : PySem.W.keepIn K (.ref fp_steps) = true)
    (ap_cleared : PySem.W.nsIn K mainGlobals "_cleared" = some (some (.ref fp_cleared)))
    (lp_cleared : K.lookup fp_cleared = some ⟨ocp_cleared, odp_cleared, .func (PySem.W.fnOf "_cleared" "_cleared" (defArgs sp_cleared) (defBody sp_cleared) (defScope sp_cleared) .none kVp_cleared dcp_cleared pmp_cleared anp_cleared cdp_cleared ctp_cleared), slp_cleared⟩)
    (cp_cleared : PySem.W.codeIn K cdp_cleared "_cleared" = true) (kp_cleared : PySem.W.keepIn K (.ref fp_cleared) = true)
    (ap_is_held : PySem.W.nsIn K mainGlobals "is_held" = some (some (.ref fp_is_held)))
    (lp_is_held : K.lookup fp_is_held = some ⟨ocp_is_held, odp_is_held, .func (PySem.W.fnOf "is_held" "is_held" (defArgs sp_is_held) (defBody sp_is_held) (defScope sp_is_held) .none kVp_is_held dcp_is_held pmp_is_held anp_is_held cdp_is_held ctp_is_held), slp_is_held⟩)
    (cp_is_held : PySem.W.codeIn K cdp_is_held "is_held" = true) (kp_is_held : PySem.W.keepIn K (.ref fp_is_held) = true)
    (ap_divisor : PySem.W.nsIn K mainGlobals "divisor" = some (some (.ref fp_divisor)))
    (lp_divisor : K.lookup fp_divisor = some ⟨ocp_divisor, odp_divisor, .func (PySem.W.fnOf "divisor" "divisor" (defArgs sp_divisor) (defBody sp_divisor) (defScope sp_divisor) .none kVp_divisor dcp_divisor pmp_divisor anp_divisor cdp_divisor ctp_divisor), slp_divisor⟩)
    (cp_divisor : PySem.W.codeIn K cdp_divisor "divisor" = true) (kp_divisor : PySem.W.keepIn K (.ref fp_divisor) = true)
    (a_bag : PySem.W.nsIn K mainGlobals "_law_bag" = some (some (.ref f_bag)))
    (l_bag : K.lookup f_bag = some ⟨oc_bag, od_bag, .func (PySem.W.fnOf "_law_bag" "_law_bag" (defArgs s_bag) (defBody s_bag) (defScope s_bag) .none kV_bag dc_bag pm_bag an_bag cd_bag ct_bag), sl_bag⟩)
    (c_bag : PySem.W.codeIn K cd_bag "_law_bag" = true) (k_bag : PySem.W.keepIn K (.ref f_bag) = true)
    (a_take : PySem.W.nsIn K mainGlobals "_law_take" = some (some (.ref f_take)))
    (l_take : K.lookup f_take = some ⟨oc_take, od_take, .func (PySem.W.fnOf "_law_take" "_law_take" (defArgs s_take) (defBody s_take) (defScope s_take) .none kV_take dc_take pm_take an_take cd_take ct_take), sl_take⟩)
    (c_take : PySem.W.codeIn K cd_take "_law_take" = true) (k_take : PySem.W.keepIn K (.ref f_take) = true)
    (a_alike : PySem.W.nsIn K mainGlobals "_law_alike" = some (some (.ref f_alike)))
    (l_alike : K.lookup f_alike = some ⟨oc_alike, od_alike, .func (PySem.W.fnOf "_law_alike" "_law_alike" (defArgs s_alike) (defBody s_alike) (defScope s_alike) .none kV_alike dc_alike pm_alike an_alike cd_alike ct_alike), sl_alike⟩)
    (c_alike : PySem.W.codeIn K cd_alike "_law_alike" = true) (k_alike : PySem.W.keepIn K (.ref f_alike) = true)
    (a_one : PySem.W.nsIn K mainGlobals "_law_one" = some (some (.ref f_one)))
    (l_one : K.lookup f_one = some ⟨oc_one, od_one, .func (PySem.W.fnOf "_law_one" "_law_one" (defArgs s_one) (defBody s_one) (defScope s_one) .none kV_one dc_one pm_one an_one cd_one ct_one), sl_one⟩)
    (c_one : PySem.W.codeIn K cd_one "_law_one" = true) (k_one : PySem.W.keepIn K (.ref f_one) = true)
    (a_mixture : PySem.W.nsIn K mainGlobals "_law_mixture" = some (some (.ref f_mixture)))
    (l_mixture : K.lookup f_mixture = some ⟨oc_mixture, od_mixture, .func (PySem.W.fnOf "_law_mixture" "_law_mixture" (defArgs s_mixture) (defBody s_mixture) (defScope s_mixture) .none kV_mixture dc_mixture pm_mixture an_mixture cd_mixture ct_mixture), sl_mixture⟩)
    (c_mixture : PySem.W.codeIn K cd_mixture "_law_mixture" = true) (k_mixture : PySem.W.keepIn K (.ref f_mixture) = true)
    (a_less : PySem.W.nsIn K mainGlobals "_law_less" = some (some (.ref f_less)))
    (l_less : K.lookup f_less = some ⟨oc_less, od_less, .func (PySem.W.fnOf "_law_less" "_law_less" (defArgs s_less) (defBody s_less) (defScope s_less) .none kV_less dc_less pm_less an_less cd_less ct_less), sl_less⟩)
    (c_less : PySem.W.codeIn K cd_less "_law_less" = true) (k_less : PySem.W.keepIn K (.ref f_less) = true)
    (a_cut : PySem.W.nsIn K mainGlobals "_law_cut" = some (some (.ref f_cut)))
    (l_cut : K.lookup f_cut = some ⟨oc_cut, od_cut, .func (PySem.W.fnOf "_law_cut" "_law_cut" (defArgs s_cut) (defBody s_cut) (defScope s_cut) .none kV_cut dc_cut pm_cut an_cut cd_cut ct_cut), sl_cut⟩)
    (c_cut : PySem.W.codeIn K cd_cut "_law_cut" = true) (k_cut : PySem.W.keepIn K (.ref f_cut) = true)
    (a_rank : PySem.W.nsIn K mainGlobals "_law_rank" = some (some (.ref f_rank)))
    (l_rank : K.lookup f_rank = some ⟨oc_rank, od_rank, .func (PySem.W.fnOf "_law_rank" "_law_rank" (defArgs s_rank) (defBody s_rank) (defScope s_rank) .none kV_rank dc_rank pm_rank an_rank cd_rank ct_rank), sl_rank⟩)
    (c_rank : PySem.W.codeIn K cd_rank "_law_rank" = true) (k_rank : PySem.W.keepIn K (.ref f_rank) = true)
    (a_is_held : PySem.W.nsIn K mainGlobals "_law_is_held" = some (some (.ref f_is_held)))
    (l_is_held : K.lookup f_is_held = some ⟨oc_is_held, od_is_held, .func (PySem.W.fnOf "_law_is_held" "_law_is_held" (defArgs s_is_held) (defBody s_is_held) (defScope s_is_held) .none kV_is_held dc_is_held pm_is_held an_is_held cd_is_held ct_is_held), sl_is_held⟩)
    (c_is_held : PySem.W.codeIn K cd_is_held "_law_is_held" = true) (k_is_held : PySem.W.keepIn K (.ref f_is_held) = true)
    (a_steps : PySem.W.nsIn K mainGlobals "_law_steps" = some (some (.ref f_steps)))
    (l_steps : K.lookup f_steps = some ⟨oc_steps, od_steps, .func (PySem.W.fnOf "_law_steps" "_law_steps" (defArgs s_steps) (defBody s_steps) (defScope s_steps) .none kV_steps dc_steps pm_steps an_steps cd_steps ct_steps), sl_steps⟩)
    (c_steps : PySem.W.codeIn K cd_steps "_law_steps" = true) (k_steps : PySem.W.keepIn K (.ref f_steps) = true)
    (a_is_made : PySem.W.nsIn K mainGlobals "_law_is_made" = some (some (.ref f_is_made)))
    (l_is_made : K.lookup f_is_made = some ⟨oc_is_made, od_is_made, .func (PySem.W.fnOf "_law_is_made" "_law_is_made" (defArgs s_is_made) (defBody s_is_made) (defScope s_is_made) .none kV_is_made dc_is_made pm_is_made an_is_made cd_is_made ct_is_made), sl_is_made⟩)
    (c_is_made : PySem.W.codeIn K cd_is_made "_law_is_made" = true) (k_is_made : PySem.W.keepIn K (.ref f_is_made) = true)
    (a_shared : PySem.W.nsIn K mainGlobals "_law_shared" = some (some (.ref f_shared)))
    (l_shared : K.lookup f_shared = some ⟨oc_shared, od_shared, .func (PySem.W.fnOf "_law_shared" "_law_shared" (defArgs s_shared) (defBody s_shared) (defScope s_shared) .none kV_shared dc_shared pm_shared an_shared cd_shared ct_shared), sl_shared⟩)
    (c_shared : PySem.W.codeIn K cd_shared "_law_shared" = true) (k_shared : PySem.W.keepIn K (.ref f_shared) = true)
    (a_some_rows : PySem.W.nsIn K mainGlobals "_law_some_rows" = some (some (.ref f_some_rows)))
    (l_some_rows : K.lookup f_some_rows = some ⟨oc_some_rows, od_some_rows, .func (PySem.W.fnOf "_law_some_rows" "_law_some_rows" (defArgs s_some_rows) (defBody s_some_rows) (defScope s_some_rows) .none kV_some_rows dc_some_rows pm_some_rows an_some_rows cd_some_rows ct_some_rows), sl_some_rows⟩)
    (c_some_rows : PySem.W.codeIn K cd_some_rows "_law_some_rows" = true) (k_some_rows : PySem.W.keepIn K (.ref f_some_rows) = true)
    (a_raised : PySem.W.nsIn K mainGlobals "_law_raised" = some (some (.ref f_raised)))
    (l_raised : K.lookup f_raised = some ⟨oc_raised, od_raised, .func (PySem.W.fnOf "_law_raised" "_law_raised" (defArgs s_raised) (defBody s_raised) (defScope s_raised) .none kV_raised dc_raised pm_raised an_raised cd_raised ct_raised), sl_raised⟩)
    (c_raised : PySem.W.codeIn K cd_raised "_law_raised" = true) (k_raised : PySem.W.keepIn K (.ref f_raised) = true)
    (a_primes : PySem.W.nsIn K mainGlobals "_law_primes" = some (some (.ref f_primes)))
    (l_primes : K.lookup f_primes = some ⟨oc_primes, od_primes, .func (PySem.W.fnOf "_law_primes" "_law_primes" (defArgs s_primes) (defBody s_primes) (defScope s_primes) .none kV_primes dc_primes pm_primes an_primes cd_primes ct_primes), sl_primes⟩)
    (c_primes : PySem.W.codeIn K cd_primes "_law_primes" = true) (k_primes : PySem.W.keepIn K (.ref f_primes) = true)
    (a_right : PySem.W.nsIn K mainGlobals "_law_right" = some (some (.ref f_right)))
    (l_right : K.lookup f_right = some ⟨oc_right, od_right, .func (PySem.W.fnOf "_law_right" "_law_right" (defArgs s_right) (defBody s_right) (defScope s_right) .none kV_right dc_right pm_right an_right cd_right ct_right), sl_right⟩)
    (c_right : PySem.W.codeIn K cd_right "_law_right" = true) (k_right : PySem.W.keepIn K (.ref f_right) = true)
    (ap_law : PySem.W.nsIn K mainGlobals "law" = some (some (.ref fp_law)))
    (lp_law : K.lookup fp_law = some ⟨ocp_law, odp_law, .func (PySem.W.fnOf "law" "law" (defArgs sp_law) (defBody sp_law) (defScope sp_law) .none kVp_law dcp_law pmp_law anp_law cdp_law ctp_law), slp_law⟩)
    (cp_law : PySem.W.codeIn K cdp_law "law" = true) (kp_law : PySem.W.keepIn K (.ref fp_law) = true)
    (z_ValueError : PySem.W.nsIn K mainGlobals "ValueError" = some none)
    (z_abs : PySem.W.nsIn K mainGlobals "abs" = some none)
    (z_any : PySem.W.nsIn K mainGlobals "any" = some none)
    (z_bool : PySem.W.nsIn K mainGlobals "bool" = some none)
    (z_int : PySem.W.nsIn K mainGlobals "int" = some none)
    (z_isinstance : PySem.W.nsIn K mainGlobals "isinstance" = some none)
    (z_len : PySem.W.nsIn K mainGlobals "len" = some none)
    (z_list : PySem.W.nsIn K mainGlobals "list" = some none)
    (z_max : PySem.W.nsIn K mainGlobals "max" = some none)
    (z_min : PySem.W.nsIn K mainGlobals "min" = some none)
    (z_range : PySem.W.nsIn K mainGlobals "range" = some none)
    (z_repr : PySem.W.nsIn K mainGlobals "repr" = some none)
    (z_tuple : PySem.W.nsIn K mainGlobals "tuple" = some none)
    (z_zip : PySem.W.nsIn K mainGlobals "zip" = some none)
    (i_gcd : PySem.W.nsIn K mainGlobals "gcd" = some (some (.builtin "math.gcd")))
    {xnm xq : Str} {xN : Addr} {xbs : List Value} {xsn : List Str} {xsub : List Value} {xab : Bool} {xcol : Option Bool} {xdd : Option Addr} {xm0 xm1 xm2 xm3 xm5 : Option Value}
    {feN : Addr} {odeN aneN : Option Addr} {sleN : Array (Option Value)} {oceN kVeN dceN pmeN cdeN cteN : Value}
    (aN : PySem.W.nsIn K mainGlobals "NotHeld" = some (some (.ref cN)))
    (aM : PySem.W.nsIn K mainGlobals "MuchError" = some (some (.ref cM)))
    (yI : PySem.W.findIn K (.ref cN) "__init__" = some (some (.ref feN)))
    (yT : PySem.W.typeIn K (.ref feN) = some (.type "function"))
    (yL : K.lookup feN = some ⟨oceN, odeN, .func (PySem.W.fnOf "__init__" "NotHeld.__init__" (defArgs se_NotHeld) (defBody se_NotHeld) (defScope se_NotHeld) .none kVeN dceN pmeN aneN cdeN cteN), sleN⟩)
    (yC : PySem.W.codeIn K cdeN "NotHeld.__init__" = true)
    (yK : PySem.W.keepIn K (.ref feN) = true)
    (xL : K.lookup cN = some (excClassObj xnm xq cN xN xbs [.ref cM, .type "ValueError", .type "Exception", .type "BaseException", .type "object"] true xsn xsub xab xcol xdd xm0 xm1 xm2 xm3 xm5 "ValueError.__new__"))
    (xsa : PySem.W.findIn K (.ref cN) "__setattr__" = some (some (.builtin "object.__setattr__")))
    (xga : PySem.W.findIn K (.ref cN) "__getattribute__" = some (some (.builtin "BaseException.__getattribute__")))
    (xgg : PySem.W.findIn K (.ref cN) "__getattr__" = some none)
    (xnb : PySem.W.findIn K (.ref cN) "row" = some none)
    (xca : PySem.W.findIn K (.ref cN) "__class__" = some (some (.builtin "object.__class__")))
    (ecg : PySem.W.specialIn K (.builtin "object.__class__") "__get__" = some (some (.builtin "getset_descriptor.__get__")))
    (ect : PySem.W.takesIn K (.builtin "object.__class__") = some true)
    (xkC : PySem.W.keepIn K (.ref cN) = true)
    (xeC : PySem.W.subIn K (.ref cN) (.type "BaseException") = some true)
    (xtC : PySem.W.typeIn K (.ref cN) = some (.type "type"))
    (xhd : PySem.W.hasDictIn K cN = true)
    (xcl : PySem.W.isClsIn K cN = true)
    (xmo : PySem.W.mroIn K cN (.type "object") = some true)
    (mcl : PySem.W.isClsIn K cM = true)
    (mty : PySem.W.typeIn K (.ref cM) = some (.type "type"))
    (meC : PySem.W.subIn K (.ref cM) (.type "BaseException") = some true)
    (msb : PySem.W.subIn K (.ref cN) (.ref cM) = some true)
    (eL1 : cd_right = .ref cL1) (tL1 : h.get? PL1 = some (PySem.W.tabObj #[]) ∧ K.lookup PL1 = none ∧ PySem.W.codeHdIn K cL1 PL1 = true)
    
    : ∃ (fd : FuncData) (cs : List (Addr × Addr)) (T : List (Addr × Str)), (∀ (s : Shared) (u : Value), BindsTo s fd ⟨[u], []⟩ [("_law_script", u)]) ∧ (∀ p ∈ cs, h.get? p.2 = some (PySem.W.tabObj #[])) ∧ (∀ p ∈ cs, K.lookup p.2 = none) ∧ (∀ p ∈ cs, PySem.W.CodeHd h p.1 p.2) ∧ (∀ p ∈ T, ∃ c, (c, p.1) ∈ cs) ∧
        ∀ base : Heap, K.In base → base.Ns mainGlobals mg → (∃ o, base.get? sysModules = some o) → (∀ p ∈ cs, LamX.TabB base mg p.1 p.2) → FnG l.prog w K mg base CX0 15 fa fd ["_law_script"] (spLawT K T) := by
  have e := hfa.symm.trans (PySem.W.mg_of X G ap_law)
  cases e
  have FL := fun_mk (st := sp_law) lp_law cp_law kp_law
  have FB := fun_mk (st := s_bag) l_bag c_bag k_bag
  have bB := FB.binds (ps := ["_law_script"]) fun _ _ _ _ _ _ us hl => match us, hl with | [_], _ => rfl
  have T : Txt K mg := by
    constructor
    · exact defAt_mk X G a_take l_take c_take k_take fun _ _ _ _ _ _ us hl => match us, hl with | [_, _], _ => rfl
    · exact defAt_mk X G ap_taken lp_taken cp_taken kp_taken fun _ _ _ _ _ _ us hl => match us, hl with | [_, _], _ => rfl
    · exact defAt_mk X G ap_times lp_times cp_times kp_times fun _ _ _ _ _ _ us hl => match us, hl with | [_, _], _ => rfl
    · exact defAt_mk X G ap_first_place lp_first_place cp_first_place kp_first_place fun _ _ _ _ _ _ us hl => match us, hl with | [_], _ => rfl
    · exact defAt_mk X G ap_less lp_less cp_less kp_less fun _ _ _ _ _ _ us hl => match us, hl with | [_, _, _], _ => rfl
    · exact defAt_mk X G ap_joined lp_joined cp_joined kp_joined fun _ _ _ _ _ _ us hl => match us, hl with | [_, _, _], _ => rfl
    · exact defAt_mk X G ap_lowered lp_lowered cp_lowered kp_lowered fun _ _ _ _ _ _ us hl => match us, hl with | [_], _ => rfl
    · exact defAt_mk X G ap_with_row lp_with_row cp_with_row kp_with_row fun _ _ _ _ _ _ us hl => match us, hl with | [_, _], _ => rfl
    · exact defAt_mk X G ap_steps lp_steps cp_steps kp_steps fun _ _ _ _ _ _ us hl => match us, hl with | [_], _ => rfl
    · exact defAt_mk X G ap_cleared lp_cleared cp_cleared kp_cleared fun _ _ _ _ _ _ us hl => match us, hl with | [_, _], _ => rfl
    · exact defAt_mk X G ap_is_held lp_is_held cp_is_held kp_is_held fun _ _ _ _ _ _ us hl => match us, hl with | [_, _], _ => rfl
    · exact defAt_mk X G ap_divisor lp_divisor cp_divisor kp_divisor fun _ _ _ _ _ _ us hl => match us, hl with | [_, _], _ => rfl
    · exact defAt_mk X G a_alike l_alike c_alike k_alike fun _ _ _ _ _ _ us hl => match us, hl with | [_, _], _ => rfl
    · exact defAt_mk X G a_one l_one c_one k_one fun _ _ _ _ _ _ us hl => match us, hl with | [_, _], _ => rfl
    · exact defAt_mk X G a_mixture l_mixture c_mixture k_mixture fun _ _ _ _ _ _ us hl => match us, hl with | [_, _, _], _ => rfl
    · exact defAt_mk X G a_less l_less c_less k_less fun _ _ _ _ _ _ us hl => match us, hl with | [_, _, _, _], _ => rfl
    · exact defAt_mk X G a_cut l_cut c_cut k_cut fun _ _ _ _ _ _ us hl => match us, hl with | [_], _ => rfl
    · exact defAt_mk X G a_rank l_rank c_rank k_rank fun _ _ _ _ _ _ us hl => match us, hl with | [_], _ => rfl
    · exact defAt_mk X G a_is_held l_is_held c_is_held k_is_held fun _ _ _ _ _ _ us hl => match us, hl with | [_, _], _ => rfl
    · exact defAt_mk X G a_steps l_steps c_steps k_steps fun _ _ _ _ _ _ us hl => match us, hl with | [_], _ => rfl
    · exact defAt_mk X G a_is_made l_is_made c_is_made k_is_made fun _ _ _ _ _ _ us hl => match us, hl with | [_, _], _ => rfl
    · exact defAt_mk X G a_shared l_shared c_shared k_shared fun _ _ _ _ _ _ us hl => match us, hl with | [_], _ => rfl
    · exact defAt_mk X G a_some_rows l_some_rows c_some_rows k_some_rows fun _ _ _ _ _ _ us hl => match us, hl with | [_, _, _], _ => rfl
    · exact defAt_mk X G a_raised l_raised c_raised k_raised fun _ _ _ _ _ _ us hl => match us, hl with | [_], _ => rfl
    · exact defAt_mk X G a_primes l_primes c_primes k_primes fun _ _ _ _ _ _ us hl => match us, hl with | [_], _ => rfl
    · exact defAt_mk X G a_right l_right c_right k_right fun _ _ _ _ _ _ us hl => match us, hl with | [_, _], _ => rfl
    · exact PySem.W.mg_none_of X G z_ValueError
    · exact PySem.W.mg_none_of X G z_abs
    · exact PySem.W.mg_none_of X G z_any
    · exact PySem.W.mg_none_of X G z_bool
    · exact PySem.W.mg_none_of X G z_int
    · exact PySem.W.mg_none_of X G z_isinstance
    · exact PySem.W.mg_none_of X G z_len
    · exact PySem.W.mg_none_of X G z_list
    · exact PySem.W.mg_none_of X G z_max
    · exact PySem.W.mg_none_of X G z_min
    · exact PySem.W.mg_none_of X G z_range
    · exact PySem.W.mg_none_of X G z_repr
    · exact PySem.W.mg_none_of X G z_tuple
    · exact PySem.W.mg_none_of X G z_zip
    · exact PySem.W.mg_of X G i_gcd
    · exact ⟨cN, cM, ⟨⟨PySem.W.mg_of X G aN, ⟨⟨_, _, _, _, _, _, _, _, _, _, _, _, _, _, _, xL, rfl⟩, xsa, xeC, xtC, xkC⟩, xnb, ⟨_, _, _, _, _, _, _, _, fun_mk (st := se_NotHeld) yL yC yK, yI, yT, (fun_mk (st := se_NotHeld) yL yC yK).binds fun _ _ _ _ _ _ us hl => match us, hl with | [_, _], _ => rfl, sce_NotHeld, rfl, by decide, by decide, rfl, rfl⟩⟩, PySem.W.mg_of X G aM, exm_of meC mcl mty msb, ⟨xcl, xga, xgg, xeC, xca, ecg, ect, xmo, xhd⟩, kit_self⟩⟩
  obtain ⟨c0', c1', xs⟩ := T.xs
  have q1 : ∀ p ∈ ([(cL1, PL1)] : List (Addr × Addr)), h.get? p.2 = some (PySem.W.tabObj #[]) := fun p hp => by
    simp only [List.mem_cons, List.not_mem_nil, or_false] at hp
    rcases hp with rfl
    · exact tL1.1
  have q2 : ∀ p ∈ ([(cL1, PL1)] : List (Addr × Addr)), K.lookup p.2 = none := fun p hp => by
    simp only [List.mem_cons, List.not_mem_nil, or_false] at hp
    rcases hp with rfl
    · exact tL1.2.1
  have q3 : ∀ p ∈ ([(cL1, PL1)] : List (Addr × Addr)), PySem.W.CodeHd h p.1 p.2 := fun p hp => by
    simp only [List.mem_cons, List.not_mem_nil, or_false] at hp
    rcases hp with rfl
    · exact PySem.W.codeHd_of_K X tL1.2.2
  have q4 : ∀ p ∈ ([(PL1, "_law_right.<locals>.<lambda>")] : List (Addr × Str)), ∃ c, (c, p.1) ∈ ([(cL1, PL1)] : List (Addr × Addr)) := fun p hp => by
    simp only [List.mem_cons, List.not_mem_nil, or_false] at hp
    rcases hp with rfl
    · exact ⟨cL1, List.mem_cons_self⟩
  exact ⟨_, [(cL1, PL1)], [(PL1, "_law_right.<locals>.<lambda>")], fun s v => .of_eq rfl, q1, q2, q3, q4, fun base _ _ hb tb => ok_law hb xs ⟨⟨_, _, _, PySem.W.mg_of X G a_right, l_right, rfl, rfl⟩⟩ ⟨cL1, PL1, eL1, tb _ List.mem_cons_self, List.mem_cons_self, fun p hp e => by (simp only [List.mem_cons, List.not_mem_nil, or_false] at hp; rcases hp with rfl <;> first | rfl)⟩ FL FB (PySem.W.mg_of X G a_bag) bB (PySem.W.mg_none_of X G z_abs) T⟩
end K23
open PySem PySem.W PyProof.Rows
set_option maxHeartbeats 0 in
theorem PySem.Challenge.cw_asmuchas_k23_divisors_of_rows_holds : PySem.Challenge.rw_asmuchas_k23_divisors_of_rows.Holds := by
  w_on; o_law; k_head; (case hw => w_witness2)
  k_fill
  refine Pd.top_walkT (l := PySem.Challenge.rw_asmuchas_k23_divisors_of_rows) (n := 63) (k := 15) (x := "_law_script") (by decide +kernel) rfl (by decide) (by decide) rfl ⟨rfl, by decide, by decide⟩ (fun w h Y => PySem.W.km_in_of Y) ?F
  case F =>
    intro w mg fa h Y KX G hmg
    refine' K23.all_mk KX G hmg ?ap_taken ?lp_taken ?cp_taken ?kp_taken ?ap_times ?lp_times ?cp_times ?kp_times ?ap_first_place ?lp_first_place ?cp_first_place ?kp_first_place ?ap_less ?lp_less ?cp_less ?kp_less ?ap_joined ?lp_joined ?cp_joined ?kp_joined ?ap_lowered ?lp_lowered ?cp_lowered ?kp_lowered ?ap_with_row ?lp_with_row ?cp_with_row ?kp_with_row ?ap_steps ?lp_steps ?cp_steps ?kp_steps ?ap_cleared ?lp_cleared ?cp_cleared ?kp_cleared ?ap_is_held ?lp_is_held ?cp_is_held ?kp_is_held ?ap_divisor ?lp_divisor ?cp_divisor ?kp_divisor ?a_bag ?l_bag ?c_bag ?k_bag ?a_take ?l_take ?c_take ?k_take ?a_alike ?l_alike ?c_alike ?k_alike ?a_one ?l_one ?c_one ?k_one ?a_mixture ?l_mixture ?c_mixture ?k_mixture ?a_less ?l_less ?c_less ?k_less ?a_cut ?l_cut ?c_cut ?k_cut ?a_rank ?l_rank ?c_rank ?k_rank ?a_is_held ?l_is_held ?c_is_held ?k_is_held ?a_steps ?l_steps ?c_steps ?k_steps ?a_is_made ?l_is_made ?c_is_made ?k_is_made ?a_shared ?l_shared ?c_shared ?k_shared ?a_some_rows ?l_some_rows ?c_some_rows ?k_some_rows ?a_raised ?l_raised ?c_raised ?k_raised ?a_primes ?l_primes ?c_primes ?k_primes ?a_right ?l_right ?c_right ?k_right ?ap_law ?lp_law ?cp_law ?kp_law ?z_ValueError ?z_abs ?z_any ?z_bool ?z_int ?z_isinstance ?z_len ?z_list ?z_max ?z_min ?z_range ?z_repr ?z_tuple ?z_zip ?i_gcd ?aN ?aM ?yI ?yT ?yL ?yC ?yK ?xL ?xsa ?xga ?xgg ?xnb ?xca ?ecg ?ect ?xkC ?xeC ?xtC ?xhd ?xcl ?xmo ?mcl ?mty ?meC ?msb ?eL1 ?tL1
    (case ap_taken => k_is)
    (case lp_taken => k_is)
    (case cp_taken => k_is)
    (case kp_taken => k_is)
    (case ap_times => k_is)
    (case lp_times => k_is)
    (case cp_times => k_is)
    (case kp_times => k_is)
    (case ap_first_place => k_is)
    (case lp_first_place => k_is)
    (case cp_first_place => k_is)
    (case kp_first_place => k_is)
    (case ap_less => k_is)
    (case lp_less => k_is)
    (case cp_less => k_is)
    (case kp_less => k_is)
    (case ap_joined => k_is)
    (case lp_joined => k_is)
    (case cp_joined => k_is)
    (case kp_joined => k_is)
    (case ap_lowered => k_is)
    (case lp_lowered => k_is)
    (case cp_lowered => k_is)
    (case kp_lowered => k_is)
    (case ap_with_row => k_is)
    (case lp_with_row => k_is)
    (case cp_with_row => k_is)
    (case kp_with_row => k_is)
    (case ap_steps => k_is)
    (case lp_steps => k_is)
    (case cp_steps => k_is)
    (case kp_steps => k_is)
    (case ap_cleared => k_is)
    (case lp_cleared => k_is)
    (case cp_cleared => k_is)
    (case kp_cleared => k_is)
    (case ap_is_held => k_is)
    (case lp_is_held => k_is)
    (case cp_is_held => k_is)
    (case kp_is_held => k_is)
    (case ap_divisor => k_is)
    (case lp_divisor => k_is)
    (case cp_divisor => k_is)
    (case kp_divisor => k_is)
    (case a_bag => k_is)
    (case l_bag => k_is)
    (case c_bag => k_is)
    (case k_bag => k_is)
    (case a_take => k_is)
    (case l_take => k_is)
    (case c_take => k_is)
    (case k_take => k_is)
    (case a_alike => k_is)
    (case l_alike => k_is)
    (case c_alike => k_is)
    (case k_alike => k_is)
    (case a_one => k_is)
    (case l_one => k_is)
    (case c_one => k_is)
    (case k_one => k_is)
    (case a_mixture => k_is)
    (case l_mixture => k_is)
    (case c_mixture => k_is)
    (case k_mixture => k_is)
    (case a_less => k_is)
    (case l_less => k_is)
    (case c_less => k_is)
    (case k_less => k_is)
    (case a_cut => k_is)
    (case l_cut => k_is)
    (case c_cut => k_is)
    (case k_cut => k_is)
    (case a_rank => k_is)
    (case l_rank => k_is)
    (case c_rank => k_is)
    (case k_rank => k_is)
    (case a_is_held => k_is)
    (case l_is_held => k_is)
    (case c_is_held => k_is)
    (case k_is_held => k_is)
    (case a_steps => k_is)
    (case l_steps => k_is)
    (case c_steps => k_is)
    (case k_steps => k_is)
    (case a_is_made => k_is)
    (case l_is_made => k_is)
    (case c_is_made => k_is)
    (case k_is_made => k_is)
    (case a_shared => k_is)
    (case l_shared => k_is)
    (case c_shared => k_is)
    (case k_shared => k_is)
    (case a_some_rows => k_is)
    (case l_some_rows => k_is)
    (case c_some_rows => k_is)
    (case k_some_rows => k_is)
    (case a_raised => k_is)
    (case l_raised => k_is)
    (case c_raised => k_is)
    (case k_raised => k_is)
    (case a_primes => k_is)
    (case l_primes => k_is)
    (case c_primes => k_is)
    (case k_primes => k_is)
    (case a_right => k_is)
    (case l_right => k_is)
    (case c_right => k_is)
    (case k_right => k_is)
    (case ap_law => k_is)
    (case lp_law => k_is)
    (case cp_law => k_is)
    (case kp_law => k_is)
    (case z_ValueError => k_is)
    (case z_abs => k_is)
    (case z_any => k_is)
    (case z_bool => k_is)
    (case z_int => k_is)
    (case z_isinstance => k_is)
    (case z_len => k_is)
    (case z_list => k_is)
    (case z_max => k_is)
    (case z_min => k_is)
    (case z_range => k_is)
    (case z_repr => k_is)
    (case z_tuple => k_is)
    (case z_zip => k_is)
    (case i_gcd => k_is)
    (case aN => k_is)
    (case aM => k_is)
    (case yI => k_is)
    (case yT => k_is)
    (case yL => k_is)
    (case yC => k_is)
    (case yK => k_is)
    (case xL => k_is)
    (case xsa => k_is)
    (case xga => k_is)
    (case xgg => k_is)
    (case xnb => k_is)
    (case xca => k_is)
    (case ecg => k_is)
    (case ect => k_is)
    (case xkC => k_is)
    (case xeC => k_is)
    (case xtC => k_is)
    (case xhd => k_is)
    (case xcl => k_is)
    (case xmo => k_is)
    (case mcl => k_is)
    (case mty => k_is)
    (case meC => k_is)
    (case msb => k_is)
    (case eL1 => rfl)
    (case tL1 => first | exact ⟨PySem.W.km_tabs_of Y _ List.mem_cons_self, by first | rfl | kernel_rfl, by rfl⟩)

