import PyProof.Rows.All
import Wide.All
import OpenK.AllK
import Wide.FinOn
import HandS.ForMost
import HandS.SetTxt0
import HandS.Set
import HandS.SetFor
import HandS.More
import HandS.Wide
import HandS.TupAny
import KE.SortData
import PyProof.ReprRoads
import HandS.Zip
import KE.DataFind
import HandS.Gcd
import HandS.TupMul
import KE.KTupSum
import HandS.Ends
import HandS.IsInst
import HandS.Text
import PyProof.TupleOfSeq
import HandS.Style
import HandS.ListEq
import HandS.ListItems
import HandS.DictComp
import HandS.Finally
import HandS.OwnEq
import HandS.Strs
import HandS.SetKeys
import HandS.Property
import KE.GoesMore
import HandS.IterVal
import HandS.OwnIter
import HandS.Deep
import HandS.WordsDict
import OpenK.KMeth
import OpenK.KWalk
import PyProof.InstEq
import KE.KFromBytes
import KE.KOwnIter
import HandS.Walk
import KE.KDictZip
import KE.GoesZip
import HandS.TupSets
import PySem.Challenge.RW_asmuchas_k37_whole_tellings_of_worths
set_option Elab.async false
set_option linter.all false
set_option maxRecDepth 100000
set_option maxHeartbeats 4000000
set_option exponentiation.threshold 500
/-! Sets of texts whose order can be walked: set(texts), sorted of it, its length. -/
namespace Tx
open PySem PySem.Spec PyProof.Rows L2

/-- the set at a holds the texts l, and its order can be walked -/
structure TxR (P : Program) (w : World) (h : Heap) (a : Addr) (l : List Str) : Prop where
  ex : ∃ D : Froz.SD, h.get? a = some (Froz.sObj "set" D) ∧ Froz.TxOk P w D l ∧ Ris D.2.2.place.toList ∧ (w.params.followText "set-order" = true ∨ D.2.2.led = true)
  nd : l.Nodup

section
variable {P : Program} {w : World} {A : Around} {E : Value → Shared → Prop} {s : Shared} {a : Addr} {l : List Str}
theorem TxR.at {h h' : Heap} (R : TxR P w h a l) (k : ∀ o, h.get? a = some o → h'.get? a = some o) : TxR P w h' a l := by
  obtain ⟨D, q, rest⟩ := R.ex
  exact ⟨⟨D, k _ q, rest⟩, R.nd⟩
theorem tail_ris {ep : Nat} {es : Array (Int × Value)} {t : SetTable} {b : Bool} (r : Ris t.place.toList) : Ris (Froz.tailTx ep es t b).2.2.place.toList ∧ (Froz.tailTx ep es t b).2.2.led = t.led := by
  unfold Froz.tailTx
  split
  · exact ⟨relayAll_ris t es _, relayAll_led t es _⟩
  · exact ⟨r, rfl⟩
theorem add_ris {x : Int} {v : Value} {D : Froz.SD} (r : Ris D.2.2.place.toList) : Ris (Froz.addTx x v D).2.2.place.toList ∧ (Froz.addTx x v D).2.2.led = D.2.2.led := by
  obtain ⟨es, ep, t⟩ := D
  have r1 := layNew_ris t es x v r
  have l1 := layNew_led t es x v
  unfold Froz.addTx
  have z := tail_ris (ep := ep) (es := (layNew t es x v).1) (t := if (layNew t es x v).2.1.plain = true then { (layNew t es x v).2.1 with plain := false } else (layNew t es x v).2.1) (b := (layNew t es x v).2.2.1) (by
    split
    · exact r1
    · exact r1)
  refine ⟨z.1, z.2.trans ?_⟩
  split
  · exact l1
  · exact l1
/-- a text that is in it already -/
theorem old_x {k : Str} {u : Tok} {Q : Bool → Shared → Prop} {D : Froz.SD} (at_a : s.heap.get? a = some (Froz.sObj "set" D)) (F : Froz.TxOk P w D l) (hk : k ∈ l) (room : l.length < scanBound) (q : Q false s) :
    wpAny (model P w) A (setAddHashed a (.str k u) (hashStr w k)) Q E s := by
  obtain ⟨es, ep, t⟩ := D
  have isd : (Froz.sObj "set" (es, ep, t)).data = .set es ep t := rfl
  have fit : t.fits es.size = true := F.fit
  have el : ElemsOf (strKind P w) es.toList := F.el
  have sz : es.size = l.length := F.sz
  have key : (strKind P w).is k (.str k u) = true := Froz.is_str k u
  obtain ⟨e0, m0, i0⟩ := (F.mem k).mp hk
  unfold setAddHashed
  unfold setAddHashedIn
  apply wpAny_holding
  apply wpAny_bind
  apply wpAny_setState_of at_a isd fit
  dsimp only
  rw [byScan_of (knd := strKind P w) rfl (by omega) el]
  simp only [if_true]
  unfold setAddByScan
  apply wpAny_bind
  apply wpAny_bind
  apply wpAny_rule
  apply wpAny_bind
  refine wpAny_setScan_of (knd := strKind P w) (k := k) key at_a isd fit el ?_
  cases e : List.findIdx? (fun e => (strKind P w).is k e.2) es.toList with
  | none =>
    have no := List.findIdx?_eq_none_iff.mp e e0 m0
    rw [i0] at no
    cases no
  | some j => exact wpAny_pure (wpAny_pure q)
def ins (l : List Str) (k : Str) : List Str := if k ∈ l then l else k :: l
theorem add_any {k : Str} {u : Tok} {Q : Bool → Shared → Prop} (R : TxR P w s.heap a l) (room : l.length + 1 < scanBound)
    (q : ∀ b h', Heap.SameBut a s.heap h' → TxR P w h' a (ins l k) → Q b { s with heap := h' }) : wpAny (model P w) A (setAddHashed a (.str k u) (hashStr w k)) Q E s := by
  obtain ⟨D, at_a, F, r, led⟩ := R.ex
  unfold ins at q
  by_cases hk : k ∈ l
  · rw [if_pos hk] at q
    exact old_x at_a F hk (by omega) (q false s.heap (Heap.SameBut.refl a s.heap) R)
  · rw [if_neg hk] at q
    have z := add_ris (x := hashStr w k) (v := .str k u) r
    refine Froz.add_x at_a F hk room (q true _ (Heap.SameBut.update s.heap a _) ⟨⟨_, Froz.get_upd _ at_a rfl, Froz.add_ok u F, z.1, ?_⟩, List.nodup_cons.mpr ⟨hk, R.nd⟩⟩)
    rw [z.2]
    exact led
def ded (ks : List Str) : List Str := ks.foldl ins []
theorem ins_mem {k x : Str} {l : List Str} : x ∈ ins l k ↔ x ∈ l ∨ x = k := by
  unfold ins
  split
  · rename_i h
    exact ⟨.inl, fun z => z.elim id fun e => by rw [e]; exact h⟩
  · rw [List.mem_cons]
    exact Or.comm
theorem ins_len {k : Str} {l : List Str} : (ins l k).length ≤ l.length + 1 := by
  unfold ins
  split
  · omega
  · exact Nat.le_refl _
theorem ded_mem {x : Str} : ∀ {ks : List Str} {l : List Str}, x ∈ ks.foldl ins l ↔ x ∈ l ∨ x ∈ ks
  | [], l => by simp
  | k :: ks, l => by
    rw [List.foldl_cons, ded_mem, ins_mem, List.mem_cons, or_assoc]
theorem ded_len : ∀ {ks : List Str} {l : List Str}, (ks.foldl ins l).length ≤ l.length + ks.length
  | [], l => Nat.le_refl _
  | k :: ks, l => by
    rw [List.foldl_cons, List.length_cons]
    have a := ded_len (ks := ks) (l := ins l k)
    have b := ins_len (k := k) (l := l)
    omega
theorem ded_take {ks : List Str} {i : Nat} {k : Str} (h : ks[i]? = some k) : ded (ks.take (i + 1)) = ins (ded (ks.take i)) k := by
  unfold ded
  rw [List.take_add_one, h, List.foldl_append]
  rfl
/-! ### set(texts) -/
theorem fill {I : Addr} {fp wr : List Addr} {G : Array GenState → Array GenState → Prop} {n : Nat} {Pv : Nat → Value → Prop} {St : Nat → Shared → Prop} {R : Result → Shared → Prop} (W : WalksS P w A.in1 I fp wr G n Pv St) {b : Addr} (out : b ∉ fp)
    (ks : List Str) (hn : n = ks.length) (room : ks.length + 1 < scanBound) (item : ∀ i v, Pv i v → ∃ k t, ks[i]? = some k ∧ v = .str k t) :
    ∀ (m i : Nat) (s : Shared), n - i = m → i ≤ n → St i s → TxR P w s.heap b (ded (ks.take i)) → (∀ s2, Moved (b :: wr) G s s2 → TxR P w s2.heap b (ded ks) → R (.ok (.ret .none)) s2) →
      codeAny (model P w) A (.builtin "set.update.loop" ⟨[.ref b, .ref I], []⟩) R s := by
  have bw : b ∉ wr := fun z => out (W.sub _ z)
  have more : ∀ c ∈ wr, c ∈ b :: wr := fun c z => List.mem_cons_of_mem _ z
  intro m
  induction m with
  | zero =>
    intro i s hm hi st T fin
    obtain rfl : i = n := by omega
    apply codeAny_builtin F.entry_set_update_loop
    rw [Around.under_plainId F.plain_set_update_loop _]
    show wpAny _ A.in1 (pyNext (.ref I) >>= _) _ _ s
    apply wpAny_bind
    refine W.done s _ _ st fun s2 mv => ?_
    show wpAny _ A.in1 (ret Value.none) _ _ s2
    rw [List.take_of_length_le (by omega)] at T
    exact wpAny_pure (fin s2 (mv.mono more) (T.at fun o e => mv.heap b o bw e))
  | succ m ih =>
    intro i s hm hi st T fin
    have lt : i < n := by omega
    apply codeAny_builtin F.entry_set_update_loop
    rw [Around.under_plainId F.plain_set_update_loop _]
    show wpAny _ A.in1 (pyNext (.ref I) >>= _) _ _ s
    apply wpAny_bind
    refine W.item i s _ _ lt st fun v s2 pv st2 mv => ?_
    obtain ⟨k, t, hk, rfl⟩ := item i v pv
    have T2 : TxR P w s2.heap b (ded (ks.take i)) := T.at fun o e => mv.heap b o bw e
    have few : (ded (ks.take i)).length ≤ ks.length := by
      have z := ded_len (ks := ks.take i) (l := [])
      rw [List.length_take, List.length_nil] at z
      show (List.foldl ins [] (ks.take i)).length ≤ _
      omega
    show wpAny _ A.in1 (holding [Value.str k t] (setAdd b (.str k t)) >>= _) _ _ s2
    apply wpAny_bind
    apply wpAny_holding
    unfold setAdd
    apply wpAny_holding
    apply wpAny_bind
    refine (strKind P w).pyHash (k := k) (Froz.is_str k t) ?_
    refine add_any (s := { s2 with toks := s2.toks + 1 }) T2 (by omega) fun _ h2 sb T3 => ?_
    rw [← ded_take hk] at T3
    refine wpAny_pure ⟨plainId_quiet F.plain_set_update_loop _, ih (i + 1) _ (by omega) lt (W.frame _ s2 _ _ st2 (Nat.le_succ _) fun c hc o e => ?_) T3 fun s3 mv3 T4 => ?_⟩
    · rw [sb.2 c (fun z : c = b => out (by rw [← z]; exact hc))]
      exact e
    · refine fin s3 (Moved.trans W.gtrans ((mv.mono more).then_heap (Nat.le_succ _) fun c o hc e => ?_) mv3) T4
      rw [sb.2 c (fun z : c = b => hc (by rw [z]; exact List.mem_cons_self))]
      exact e
theorem StrsAre.str_at : ∀ {vs : List Value} {ks : List Str}, StrsAre vs ks → ∀ (i : Nat) (v : Value), vs[i]? = some v → ∃ k t, ks[i]? = some k ∧ v = .str k t
  | _, _, .nil, i, v, h => by simp at h
  | _, _, .cons k t r, 0, v, h => by
    simp at h
    exact ⟨k, t, rfl, h.symm⟩
  | _, _, .cons k t r, i + 1, v, h => by
    rw [List.getElem?_cons_succ] at h ⊢
    exact StrsAre.str_at r i v h
theorem fresh_tx {h : Heap} {b : Addr} (at_b : h.get? b = some { cls := .type "set", dict := none, data := .set #[] 0 (.fresh 0 0 (!w.params.followText "set-order")) }) : TxR P w h b [] := by
  refine ⟨⟨(#[], 0, .fresh 0 0 (!w.params.followText "set-order")), at_b, Froz.TxOk.nil (by rfl), List.Pairwise.nil, ?_⟩, List.nodup_nil⟩
  show _ ∨ (!w.params.followText "set-order") = true
  cases w.params.followText "set-order"
  · exact .inr rfl
  · exact .inl rfl
end
end Tx
namespace Tx
open PySem PySem.Spec PyProof.Rows L2
section
variable {P : Program} {w : World} {A : Around} {E : Value → Shared → Prop} {s : Shared} {a : Addr} {l : List Str}
theorem perm_of : ∀ {l ks : List Str}, l.Nodup → (∀ k ∈ l, k ∈ ks) → ks.length = l.length → ks.Perm l
  | [], ks, _, _, e => by
    have : ks = [] := List.length_eq_zero_iff.mp e
    rw [this]
  | x :: l, ks, nd, h, e => by
    have hx := h x List.mem_cons_self
    have n := List.nodup_cons.mp nd
    have p := List.perm_cons_erase hx
    have e2 : (ks.erase x).length = l.length := by
      have := p.length_eq
      rw [List.length_cons] at this e
      omega
    refine p.trans (List.Perm.cons x (perm_of n.2 (fun k hk => ?_) e2))
    exact (List.mem_erase_of_ne fun z => n.1 (by rw [← z]; exact hk)).mpr (h k (List.mem_cons_of_mem _ hk))
/-- the values of such a set are its texts, in some order -/
theorem vals_tx {es : Array (Int × Value)} {ep : Nat} {t : SetTable} (F : Froz.TxOk P w (es, ep, t) l) (nd : l.Nodup) {vs : List Value} (pm : vs.Perm (es.toList.map (·.2))) : ∃ ks, StrsAre vs ks ∧ ks.Perm l := by
  have each : ∀ v ∈ vs, ∃ k u, v = Value.str k u ∧ k ∈ l := fun v hv => by
    obtain ⟨e, he, rfl⟩ := List.mem_map.mp (pm.mem_iff.mp hv)
    obtain ⟨⟨k, hk, _⟩, _⟩ := F.el e he
    obtain ⟨u, q⟩ : ∃ u, e.2 = Value.str k u := by
      have hk' : Value.isStrOf k e.2 = true := hk
      cases z : e.2 <;> rw [z] at hk' <;> simp [Value.isStrOf] at hk'
      rw [hk']
      exact ⟨_, rfl⟩
    exact ⟨k, u, q, (F.mem k).mpr ⟨e, he, hk⟩⟩
  have mk : ∀ us : List Value, (∀ v ∈ us, ∃ k u, v = Value.str k u ∧ k ∈ l) → ∃ ks, StrsAre us ks ∧ ∀ k ∈ ks, k ∈ l := by
    intro us
    induction us with
    | nil => exact fun _ => ⟨[], .nil, fun _ z => by cases z⟩
    | cons v us ih =>
      intro h
      obtain ⟨k, u, rfl, hk⟩ := h v List.mem_cons_self
      obtain ⟨ks, q1, q2⟩ := ih fun x hx => h x (List.mem_cons_of_mem _ hx)
      refine ⟨k :: ks, .cons k u q1, fun x hx => ?_⟩
      rcases List.mem_cons.mp hx with z | z
      · rw [z]; exact hk
      · exact q2 x z
  obtain ⟨ks, q1, q2⟩ := mk vs each
  have len : ks.length = l.length := by
    rw [← q1.length, pm.length_eq, List.length_map, Array.length_toList]
    exact F.sz
  have all : ∀ k ∈ l, k ∈ ks := fun k hk => by
    obtain ⟨e, he, i⟩ := (F.mem k).mp hk
    have hv : e.2 ∈ vs := pm.mem_iff.mpr (List.mem_map.mpr ⟨e, he, rfl⟩)
    have fnd : ∀ (us : List Value) (ks : List Str), StrsAre us ks → e.2 ∈ us → k ∈ ks := by
      intro us ks q
      induction q with
      | nil => intro z; cases z
      | cons k' u _ ih =>
        intro z
        rcases List.mem_cons.mp z with z | z
        · rw [z] at i
          have := (strKind P w).inj (.str k' u) k k' i (Froz.is_str k' u)
          rw [this]
          exact List.mem_cons_self
        · exact List.mem_cons_of_mem _ (ih z)
    exact fnd vs ks q1 hv
  refine ⟨ks, q1, ?_⟩
  exact perm_of nd all len
/-- its length -/
theorem len_tx {Q : Value → Shared → Prop} (R : TxR P w s.heap a l) (few : l.length < 4096) (q : Q (.int l.length (s.toks + 1)) { s with toks := s.toks + 1 + 1 }) : wpAny (model P w) A (call (.builtin "len") [.ref a]) Q E s := by
  obtain ⟨⟨es, ep, t⟩, at_a, F, _⟩ := R.ex
  have sz : es.size = l.length := F.sz
  rw [← sz] at q
  exact call_len_set at_a ⟨rfl, rfl, rfl⟩ rfl F.fit (by show (es.size : Int) < 2 ^ 63; omega) q
/-- sorted of it -/
theorem sorted_tx {Q : Value → Shared → Prop} (R : TxR P w s.heap a l) (calm : A.handled = none) (few : l.length < 64)
    (q : ∀ s2 p (out : Array Value) (c : Nat) (ks : List Str), (∀ b o, s.heap.get? b = some o → s2.heap.get? b = some o) → s2.gens = s.gens → s2.os = s.os → s.heap.objs.size ≤ p →
      s2.heap.get? p = some (seqObj "list" out c) → StrsAre out.toList ks → ks.Perm l → sortedS ks = true → Q (.ref p) s2) : wpAny (model P w) A (call (.builtin "sorted") [.ref a]) Q E s := by
  obtain ⟨⟨es, ep, t⟩, at_a, F, r, led⟩ := R.ex
  have sz : es.size = l.length := F.sz
  apply Calls.call_function_entry kind_sorted plain_sorted entry_sorted (args_sorted1 _)
  unfold Builtin.«sorted»
  apply wpAny_bind (m := checkCount "sorted" 1 1 _); apply wpAny_pure; apply wpAny_bind
  refine collect_set (A := A.in1) calm ⟨_, at_a, rfl, rfl⟩ F.fit (by show es.size < scanBound; unfold scanBound; omega) r led fun s1 vs keep1 big g1 o1 pm => ?_
  obtain ⟨ks, are, pk⟩ := vals_tx F R.nd pm
  have lv : vs.length = l.length := are.length.trans pk.length_eq
  apply wpAny_bind
  refine wpAny_newList ?_ (by rw [lv, sizeLine_eq]; omega)
  have at_l : (s1.heap.push (seqObj "list" vs.toArray 0)).get? s1.heap.objs.size = some (seqObj "list" vs.toArray 0) := Heap.get?_push_size _ rfl
  apply wpAny_bind; apply wpAny_holding
  refine wpAny_call_entry slot_list_sort ⟨_, at_l, rfl⟩ entry_list_sort (list_sort_treeK strKind_oneLt at_l are.keysOf (fun v1 v2 rest e => keyKind_strs (by rw [← e]; exact are)) (by rw [lv]; exact few) fun st hp hs => ?_) (args_list_sort _)
  obtain ⟨ys, y1, y2, y3⟩ := sorted_out_str are hp hs
  obtain ⟨c, hc⟩ := sortedHeap_at (vs := vs) (out := (arrOf st).map (·.2)) at_l
  refine ⟨_, rfl, wpAny_pure ⟨_, rfl, q _ s1.heap.objs.size _ c ys (fun b o e => ?_) g1 o1 big hc y1 (y2.trans pk) y3⟩⟩
  have e1 := keep1 b o e
  have lt := Heap.lt_size e1
  show (sortedHeap (s1.heap.push (seqObj "list" vs.toArray 0)) s1.heap.objs.size vs ((arrOf st).map (·.2))).get? b = some o
  rw [sortedHeap_old (Nat.ne_of_lt lt) (by rw [size_push']; exact Nat.lt_succ_of_lt lt)]
  exact Heap.get?_push_of_some _ e1
end
end Tx
namespace Tx
open PySem PySem.Spec PyProof.Rows L2
section
variable {P : Program} {w : World} {A : Around} {E : Value → Shared → Prop} {s : Shared}
/-- the object of a set that was just made -/
abbrev new0 (w : World) : Obj := { cls := .type "set", dict := none, data := .set #[] 0 (.fresh 0 0 (!w.params.followText "set-order")) }
theorem set_tup {p : Addr} {items : Array Value} {ks : List Str} {Q : Value → Shared → Prop} (calm : A.handled = none) (at_p : s.heap.IsTuple p items) (are : StrsAre items.toList ks) (room : ks.length + 1 < scanBound)
    (fin : ∀ (h2 : Heap) (tk : Nat), TxR P w h2 s.heap.objs.size (ded ks) → (∀ b o, s.heap.get? b = some o → h2.get? b = some o) → Q (.ref s.heap.objs.size) { s with heap := h2, toks := tk }) :
    wpAny (model P w) A (call (.type "set") [.ref p]) Q E s := by
  have size : items.size = ks.length := by
    rw [← Array.length_toList]
    exact are.length
  have ⟨c, tl, hmro⟩ := F.called_set.mro
  have made := F.called_set.made; have sub := F.called_set.sub; have notT := F.called_set.notType
  have can := F.called_set.canCreate; have chk := F.typeCall_set_1 (.ref p)
  apply wpAny_call; apply codeAny_of_tree
  show wpAny _ _ (callAny (.type "set") _) _ _ _
  refine wpAny_pure (And.intro (Code.quiet_builtin _ (by decide +kernel)) (codeAny_builtin F.entry_type_call ?_))
  rw [Around.under_plain (weight_type_call_type "set" [.ref p] []) rfl]
  repeat (any_goals first | assumption | wp_step)
  apply codeAny_mono (code_set_led1 (.ref p) (E := E) (Q₁ := fun v s1 => v = .ref s.heap.objs.size ∧ s1 = { s with heap := s.heap.push (new0 w) }) (And.intro rfl rfl))
  rintro (e | fl) s1 hr
  · exact hr
  match fl, hr with
  | .next, hr => exact hr.elim
  | .brk, hr => exact hr.elim
  | .cont, hr => exact hr.elim
  | .ret v, hr =>
    obtain ⟨rfl, rfl⟩ := hr
    have at_b : (s.heap.push (new0 w)).get? s.heap.objs.size = some (new0 w) := Heap.get?_push_size _ rfl
    have isT : Shared.TypeIs { s with heap := s.heap.push (new0 w) } (.ref s.heap.objs.size) "set" := ⟨_, at_b, rfl⟩
    have look := F.called_set.init.lookup; have bnd := F.called_set.init.bind (.ref s.heap.objs.size)
    repeat (any_goals first | assumption | wp_step)
    apply codeAny_mono (codeAny_call_builtin (R := wants (fun r s2 => r = .none ∧ ∃ h2 tk, s2 = { s with heap := h2, toks := tk } ∧ TxR P w h2 s.heap.objs.size (ded ks) ∧ ∀ b o, s.heap.get? b = some o → h2.get? b = some o) E)
      F.called_set.init.plain F.entry_set_init (check_set_init_1 isT ?_))
    · rintro (e | fl2) s2 hr2
      · exact hr2
      match fl2, hr2 with
      | .next, hr2 => exact hr2.elim
      | .brk, hr2 => exact hr2.elim
      | .cont, hr2 => exact hr2.elim
      | .ret v2, hr2 =>
        obtain ⟨rfl, h2, tk, rfl, T, keep⟩ := hr2
        repeat (any_goals first | assumption | wp_step)
        exact fin _ _ T keep
    · obtain ⟨⟨ocl, odc, oda, osl⟩, get_p, isc, n0, isd⟩ := at_p
      dsimp only at isc isd
      subst isc isd
      have get1 : (s.heap.push (new0 w)).get? p = some { cls := .type "tuple", dict := odc, data := .seq items n0, slots := osl } := Heap.get?_push_of_some _ get_p
      have s1 := F.sub_tuple_set; have s2 := F.sub_tuple_frozenset
      have nd : (Value.type "tuple" == Value.type "dict") = false := by decide
      have tup1 : (s.heap.push (new0 w)).IsTuple p items := ⟨_, get1, rfl, n0, rfl⟩
      unfold Builtin.«set.__init__»; unfold noKeywords; unfold Builtin.Frozenset.updateFrom
      generalize eI : pyIter = PI; wp_walk; subst eI
      apply wpAny_pyIter_tuple tup1; apply wpAny_bind; apply wpAny_runValue
      have ltp : p < s.heap.objs.size := Heap.lt_size get_p
      have calm3 : A.in1.in1.in1.handled = none := by simp [calm]
      have size1 : (s.heap.push (new0 w)).objs.size = s.heap.objs.size + 1 := Heap.size_push ..
      have neI : p ≠ (s.heap.push (new0 w)).objs.size := by
        rw [size1]
        exact Nat.ne_of_lt (Nat.lt_succ_of_lt ltp)
      have outb : s.heap.objs.size ∉ [(s.heap.push (new0 w)).objs.size, p] := by
        rw [size1]
        intro z
        rcases List.mem_cons.mp z with z | z
        · exact absurd z (Nat.ne_of_lt (Nat.lt_succ_self _))
        · exact absurd (List.mem_singleton.mp z) (Nat.ne_of_gt ltp)
      refine fill ((Walks.tuple calm3 _ p neI items).toS) outb ks size room (fun i v hv => StrsAre.str_at are i v (by rw [Array.getElem?_toList]; exact hv)) (items.size - 0) 0 _ (by omega) (Nat.zero_le _)
        ⟨⟨_, Heap.get?_push_size _ rfl, rfl, rfl⟩, tup1.push _⟩ (fresh_tx (Heap.get?_push_of_some _ at_b)) fun s3 mv T => ?_
      obtain ⟨h3, g3, d3, t3, o3⟩ := s3
      have e1 : g3 = s.gens := mv.gens
      have e2 : d3 = s.drawn := mv.drawn
      have e3 : o3 = s.os := mv.os
      subst e1 e2 e3
      show wpAny _ _ _ _ _ _
      apply wpAny_pure
      show wpAny _ _ (ret Value.none) _ _ _
      refine wpAny_pure ⟨rfl, h3, t3, rfl, T, fun b o e => mv.heap b o ?_ (Heap.get?_push_of_some _ (Heap.get?_push_of_some _ e))⟩
      have ltb : b < s.heap.objs.size := Heap.lt_size e
      intro z
      rcases List.mem_cons.mp z with z | z
      · exact absurd z (Nat.ne_of_lt ltb)
      · have y := List.mem_singleton.mp z
        rw [size1] at y
        exact absurd y (Nat.ne_of_lt (Nat.lt_succ_of_lt ltb))
end
end Tx
/-! A layer of pure data over the hand layer: readings speak of data and slots, not of heaps. -/
namespace Pd
open PySem PySem.Spec PyProof.Rows L2

/-- data -/
inductive Da where
  | non | bl (b : Bool) | int (i : Int) | str (x : Str)
  | lst (xs : List Da) | tup (xs : List Da) | tpw (xs : List Da) | dct (kvs : List (Key × Da))
  /-- the bag of draws -/
  | bag
  | raw (v : V)
  /-- a thing that never changes: what is true of it -/
  | fix (φ : Hp → V → Prop)

/-- all that is tracked stays -/
def Sm (H H' : Hp) : Prop := ∀ b o, H b = some o → H' b = some o
/-- all but lists and dicts is seen there, too -/
def Sees (H H' : Hp) : Prop := ∀ a o, H a = some o → (∀ xs, o ≠ .lst xs) → (∀ kvs, o ≠ .dK kvs) → H' a = some o
theorem Sees.sm {H H' : Hp} (e : Sm H H') : Sees H H' := fun a o h _ _ => e a o h
theorem Sees.trans {H H1 H2 : Hp} (a : Sees H H1) (b : Sees H1 H2) : Sees H H2 := fun c o h n1 n2 => b c o (a c o h n1 n2) n1 n2

/-- a tuple that has no dict of its own -/
def TupS (K : PySem.W.Frag) (H : Hp) (a : Addr) (xs : List V) : Prop :=
  (∃ o : Obj, H a = some (.frz o (.tup xs)) ∧ o.dict = none) ∨
    ∃ (o : Obj) (its : Array Value) (n : Nat), K.lookup a = some o ∧ o.cls = .type "tuple" ∧ o.dict = none ∧ o.data = .seq its n ∧ its.size ≤ sizeLine ∧ Vals xs its.toList
theorem TupS.sq {K : PySem.W.Frag} {H : Hp} {a : Addr} {xs : List V} (h : TupS K H a xs) : SqT K H a xs := by
  rcases h with ⟨o, h, _⟩ | ⟨o, its, n, h1, h2, _, h3, h4, h5⟩
  · exact .inl (.inr ⟨o, h⟩)
  · exact .inr ⟨o, its, n, h1, h2, h3, h4, h5⟩

mutual
/-- v is the datum d in the heap Hh, g the bag's address -/
inductive Dv (K : PySem.W.Frag) (g : Option Addr) (Hh : Hp) : V → Da → Prop
  | non : Dv K g Hh .non .non
  | bl (b : Bool) : Dv K g Hh (.bl b) (.bl b)
  | int (i : Int) : Dv K g Hh (.int i) (.int i)
  | str (x : Str) : Dv K g Hh (.str x) (.str x)
  | lst {a : Addr} {xs : List V} {ds : List Da} : Hh a = some (.lst xs) → DvAll K g Hh xs ds → Dv K g Hh (.ref a) (.lst ds)
  | tup {a : Addr} {xs : List V} {ds : List Da} : TupS K Hh a xs → DvAll K g Hh xs ds → Dv K g Hh (.ref a) (.tup ds)
  | tpw {a : Addr} {xs : List V} {ds : List Da} : SqT K Hh a xs → DvAll K g Hh xs ds → Dv K g Hh (.ref a) (.tpw ds)
  | dct {a : Addr} {kvs : List (Key × V)} {ds : List (Key × Da)} : Hh a = some (.dK kvs) → KvAll K g Hh kvs ds → Dv K g Hh (.ref a) (.dct ds)
  | bag {a : Addr} : g = some a → Dv K g Hh (.ref a) .bag
  | raw {v : V} : Dv K g Hh v (.raw v)
  | fix {v : V} {φ : Hp → V → Prop} : (∀ H', Sees Hh H' → φ H' v) → Dv K g Hh v (.fix φ)
inductive DvAll (K : PySem.W.Frag) (g : Option Addr) (Hh : Hp) : List V → List Da → Prop
  | nil : DvAll K g Hh [] []
  | cons {v : V} {vs : List V} {d : Da} {ds : List Da} : Dv K g Hh v d → DvAll K g Hh vs ds → DvAll K g Hh (v :: vs) (d :: ds)
inductive KvAll (K : PySem.W.Frag) (g : Option Addr) (Hh : Hp) : List (Key × V) → List (Key × Da) → Prop
  | nil : KvAll K g Hh [] []
  | cons {k : Key} {v : V} {vs : List (Key × V)} {d : Da} {ds : List (Key × Da)} : Dv K g Hh v d → KvAll K g Hh vs ds → KvAll K g Hh ((k, v) :: vs) ((k, d) :: ds)
end

section
variable {K : PySem.W.Frag} {g : Option Addr} {H H' : Hp}
theorem sqt_mono {a : Addr} {xs : List V} (e : Sm H H') (h : SqT K H a xs) : SqT K H' a xs := by
  rcases h with (h | ⟨o, h⟩) | h
  · exact .inl (.inl (e _ _ h))
  · exact .inl (.inr ⟨o, e _ _ h⟩)
  · exact .inr h
theorem tups_mono {a : Addr} {xs : List V} (e : Sm H H') (h : TupS K H a xs) : TupS K H' a xs := by
  rcases h with ⟨o, h, n⟩ | h
  · exact .inl ⟨o, e _ _ h, n⟩
  · exact .inr h
mutual
theorem Dv.mono (e : Sm H H') : ∀ (d : Da) (v : V), Dv K g H v d → Dv K g H' v d
  | .non, _, h => by cases h; exact .non
  | .bl _, _, h => by cases h; exact .bl _
  | .int _, _, h => by cases h; exact .int _
  | .str _, _, h => by cases h; exact .str _
  | .lst ds, _, h => by
    cases h with
    | lst h1 h2 => exact .lst (e _ _ h1) (DvAll.mono e ds _ h2)
  | .tup ds, _, h => by
    cases h with
    | tup h1 h2 => exact .tup (tups_mono e h1) (DvAll.mono e ds _ h2)
  | .tpw ds, _, h => by
    cases h with
    | tpw h1 h2 => exact .tpw (sqt_mono e h1) (DvAll.mono e ds _ h2)
  | .dct ds, _, h => by
    cases h with
    | dct h1 h2 => exact .dct (e _ _ h1) (KvAll.mono e ds _ h2)
  | .bag, _, h => by
    cases h with
    | bag q => exact .bag q
  | .raw _, _, h => by cases h; exact .raw
  | .fix _, _, h => by
    cases h with
    | fix q => exact .fix fun H2 s => q H2 (Sees.trans (Sees.sm e) s)
theorem DvAll.mono (e : Sm H H') : ∀ (ds : List Da) (vs : List V), DvAll K g H vs ds → DvAll K g H' vs ds
  | [], _, h => by cases h; exact .nil
  | d :: ds, _, h => by
    cases h with
    | cons h1 h2 => exact .cons (Dv.mono e d _ h1) (DvAll.mono e ds _ h2)
theorem KvAll.mono (e : Sm H H') : ∀ (ds : List (Key × Da)) (vs : List (Key × V)), KvAll K g H vs ds → KvAll K g H' vs ds
  | [], _, h => by cases h; exact .nil
  | (k, d) :: ds, _, h => by
    cases h with
    | cons h1 h2 => exact .cons (Dv.mono e d _ h1) (KvAll.mono e ds _ h2)
end
theorem DvAll.len {xs : List V} : ∀ {ds : List Da}, DvAll K g H xs ds → xs.length = ds.length := by
  induction xs with
  | nil => intro ds h; cases h; rfl
  | cons x xs ih =>
    intro ds h
    cases h with
    | cons _ t => rw [List.length_cons, List.length_cons, ih t]
theorem DvAll.app {xs ys : List V} : ∀ {ds es : List Da}, DvAll K g H xs ds → DvAll K g H ys es → DvAll K g H (xs ++ ys) (ds ++ es) := by
  induction xs with
  | nil => intro ds es h q; cases h; exact q
  | cons x xs ih =>
    intro ds es h q
    cases h with
    | cons p t => exact .cons p (ih t q)
theorem DvAll.at {xs : List V} : ∀ {ds : List Da} {i : Nat} {d : Da}, DvAll K g H xs ds → ds[i]? = some d → ∃ v, xs[i]? = some v ∧ Dv K g H v d := by
  induction xs with
  | nil => intro ds i d h e; cases h; cases e
  | cons x xs ih =>
    intro ds i d h e
    cases h with
    | cons p t =>
      cases i with
      | zero => cases e; exact ⟨x, rfl, p⟩
      | succ i => exact ih (i := i) t (by simpa using e)
theorem DvAll.ta {xs : List V} : ∀ {ds : List Da} {i : Nat} {v : V}, DvAll K g H xs ds → xs[i]? = some v → ∃ d, ds[i]? = some d ∧ Dv K g H v d := by
  induction xs with
  | nil => intro ds i d h e; cases e
  | cons x xs ih =>
    intro ds i d h e
    cases h with
    | cons p t =>
      cases i with
      | zero => cases e; exact ⟨_, rfl, p⟩
      | succ i => exact ih (i := i) t (by simpa using e)
theorem DvAll.tk {xs : List V} : ∀ {ds : List Da} (n : Nat), DvAll K g H xs ds → DvAll K g H (xs.take n) (ds.take n) := by
  induction xs with
  | nil => intro ds n h; cases h; rw [List.take_nil, List.take_nil]; exact .nil
  | cons x xs ih =>
    intro ds n h
    cases h with
    | cons p t =>
      cases n with
      | zero => exact .nil
      | succ n => exact .cons p (ih n t)
theorem DvAll.dr {xs : List V} : ∀ {ds : List Da} (n : Nat), DvAll K g H xs ds → DvAll K g H (xs.drop n) (ds.drop n) := by
  induction xs with
  | nil => intro ds n h; cases h; rw [List.drop_nil, List.drop_nil]; exact .nil
  | cons x xs ih =>
    intro ds n h
    cases h with
    | cons p t =>
      cases n with
      | zero => exact .cons p t
      | succ n => exact ih n t
theorem DvAll.ints : ∀ {is : List Int} {xs : List V}, DvAll K g H xs (is.map .int) → xs = is.map V.int
  | [], _, h => by cases h; rfl
  | i :: is, _, h => by
    cases h with
    | cons p t =>
      cases p
      rw [DvAll.ints t, List.map_cons]
theorem DvAll.mk_ints : ∀ (is : List Int), DvAll K g H (is.map V.int) (is.map .int)
  | [] => .nil
  | i :: is => .cons (.int i) (DvAll.mk_ints is)
theorem DvAll.strs : ∀ {is : List Str} {xs : List V}, DvAll K g H xs (is.map .str) → xs = is.map V.str
  | [], _, h => by cases h; rfl
  | i :: is, _, h => by
    cases h with
    | cons p t =>
      cases p
      rw [DvAll.strs t, List.map_cons]
theorem DvAll.mk_strs : ∀ (is : List Str), DvAll K g H (is.map V.str) (is.map .str)
  | [] => .nil
  | i :: is => .cons (.str i) (DvAll.mk_strs is)
end

/-! ### the world of a def -/
/-- what is hidden from data -/
def hid (W : Addr → Bool) (H : Hp) : Hp := fun a => if W a = true then none else H a
theorem hid_no {W : Addr → Bool} {H : Hp} {a : Addr} (h : W a = false) : hid W H a = H a := by
  unfold hid; rw [h]; exact if_neg Bool.false_ne_true
theorem hid_some {W : Addr → Bool} {H : Hp} {a : Addr} {o : HO} (h : hid W H a = some o) : W a = false ∧ H a = some o := by
  unfold hid at h
  split at h
  · cases h
  · rename_i z
    exact ⟨by simpa using z, h⟩
theorem hid_le {W W' : Addr → Bool} {H : Hp} (h : ∀ a, W a = true → W' a = true) : Sm (hid W' H) (hid W H) := fun a o e => by
  obtain ⟨e1, e2⟩ := hid_some e
  rw [hid_no]
  · exact e2
  · cases q : W a with
    | false => rfl
    | true => rw [h a q] at e1; cases e1
theorem hid_sub {W : Addr → Bool} {H : Hp} : Sm (hid W H) H := fun a o e => (hid_some e).2

/-- all but the bag is kept -/
structure Ext (g : Option Addr) (H H' : Hp) : Prop where
  out : ∀ b o, g ≠ some b → H b = some o → H' b = some o
  last : ∀ a xs, g = some a → H a = some (.lst xs) → ∃ ys, H' a = some (.lst ys) ∧ ys[3]? = xs[3]?
instance {g : Option Addr} {H H' : Hp} : CoeFun (Ext g H H') (fun _ => ∀ b o, g ≠ some b → H b = some o → H' b = some o) := ⟨Ext.out⟩
theorem Ext.refl {g : Option Addr} {H : Hp} : Ext g H H := ⟨fun _ _ _ h => h, fun _ xs _ h => ⟨xs, h, rfl⟩⟩
theorem Ext.trans {g : Option Addr} {H H1 H2 : Hp} (a : Ext g H H1) (b : Ext g H1 H2) : Ext g H H2 := ⟨fun c o n h => b c o n (a c o n h), fun c xs hg h => by
  obtain ⟨ys, h1, h2⟩ := a.last c xs hg h
  obtain ⟨zs, h3, h4⟩ := b.last c ys hg h1
  exact ⟨zs, h3, h4.trans h2⟩⟩
theorem Ext.of {g : Option Addr} {H H' : Hp} (e : Sm H H') : Ext g H H' := ⟨fun b o _ h => e b o h, fun a xs _ h => ⟨xs, e _ _ h, rfl⟩⟩
theorem Ext.hid {g : Option Addr} {H H' : Hp} {W : Addr → Bool} (gW : ∀ a, g = some a → W a = true) (e : Ext g H H') : Sm (hid W H) (hid W H') := fun a o q => by
  obtain ⟨e1, e2⟩ := hid_some q
  rw [hid_no e1]
  exact e a o (fun z => by rw [gW a z] at e1; cases e1) e2

/-- the bag: four places -/
def BagI (K : PySem.W.Frag) (g : Option Addr) (W : Addr → Bool) (H : Hp) : Prop :=
  ∀ a, g = some a → ∃ (x y : Int) (z : Nat) (c : Addr) (cs : List Int), H a = some (.lst [.int x, .int y, .int z, .ref c]) ∧ Pd.hid W H c = some (.lst (cs.map V.int))

/-- the bag, and what is hidden -/
structure OkW (K : PySem.W.Frag) (g : Option Addr) (W : Addr → Bool) (H : Hp) : Prop where
  bag : BagI K g W H
  gW : ∀ a, g = some a → W a = true
  al : ∀ a, W a = true → ∃ o, H a = some o
theorem BagI.same {K : PySem.W.Frag} {g : Option Addr} {W : Addr → Bool} {H H' : Hp} (b : BagI K g W H) (e : Sm H H') : BagI K g W H' := fun a ha => by
  obtain ⟨x, y, z, c, cs, h1, h2⟩ := b a ha
  obtain ⟨q1, q2⟩ := hid_some h2
  exact ⟨x, y, z, c, cs, e _ _ h1, by rw [hid_no q1]; exact e _ _ q2⟩
theorem OkW.same {K : PySem.W.Frag} {g : Option Addr} {W : Addr → Bool} {H H' : Hp} (k : OkW K g W H) (e : Sm H H') : OkW K g W H' :=
  ⟨k.bag.same e, k.gW, fun a h => let ⟨o, q⟩ := k.al a h; ⟨o, e a o q⟩⟩
theorem sm_upd {H : Hp} {p : Addr} {o : HO} (h : H p = none) : Sm H (upd H p o) := fun b x e => by
  rw [upd_ne (ne_of_none e h)]
  exact e
theorem OkW.new {K : PySem.W.Frag} {g : Option Addr} {W : Addr → Bool} {H : Hp} {p : Addr} {o : HO} (k : OkW K g W H) (h : H p = none) :
    Ext g H (upd H p o) ∧ OkW K g W (upd H p o) ∧ Sm (Pd.hid W H) (Pd.hid W (upd H p o)) ∧ Pd.hid W (upd H p o) p = some o := by
  have s := sm_upd (o := o) h
  refine ⟨Ext.of s, k.same s, Ext.hid k.gW (Ext.of s), ?_⟩
  rw [hid_no, upd_same]
  cases q : W p with
  | false => rfl
  | true =>
    obtain ⟨u, z⟩ := k.al p q
    rw [h] at z; cases z

structure Wd where
  H0 : Hp
  g : Option Addr
  W0 : Addr → Bool

/-- a slot: nothing known, a datum, a list of one's own, a list of lists and dicts, all one's own -/
inductive Sl where
  | no | dat (d : Da) | own (ds : List Da) | reg (ds : List Da)
abbrev En := List Sl
/-- which slot's own each place is -/
abbrev Ow := Nat → Addr → Prop
def OnlyOwn (own : Ow) (i : Nat) (a : Addr) : Prop := own i a ∧ ∀ b, own i b → b = a
def nom : Option HO → Option HO
  | some (.lst _) => none
  | some (.dK _) => none
  | x => x
def Mut (H : Hp) (a : Addr) : Prop := (∃ xs, H a = some (.lst xs)) ∨ ∃ kvs, H a = some (.dK kvs)
open Classical in
/-- what a slot's own whole is seen in: of lists and dicts one's own alone -/
noncomputable def vis (W : Addr → Bool) (own : Ow) (H : Hp) (i : Nat) : Hp := fun a => if own i a then H a else nom (hid W H a)
theorem vis_own {W : Addr → Bool} {own : Ow} {H : Hp} {i : Nat} {a : Addr} (h : own i a) : vis W own H i a = H a := if_pos h
theorem vis_not {W : Addr → Bool} {own : Ow} {H : Hp} {i : Nat} {a : Addr} (h : ¬ own i a) : vis W own H i a = nom (hid W H a) := if_neg h
theorem nom_some {x : Option HO} {o : HO} (h : nom x = some o) : x = some o ∧ nom (some o) = some o := by
  cases x with
  | none => cases h
  | some u =>
    cases u with
    | lst xs => cases h
    | dK xs => cases h
    | _ => cases h; exact ⟨rfl, rfl⟩
/-- a heap without what stands at D -/
def cutAt (D : Addr) (H : Hp) : Hp := fun b => if b = D then none else H b
theorem cutAt_same {D : Addr} {H : Hp} : cutAt D H D = none := if_pos rfl
theorem cutAt_ne {D b : Addr} {H : Hp} (h : b ≠ D) : cutAt D H b = H b := if_neg h
theorem cutAt_sm {D : Addr} {H H' : Hp} (e : Sm H H') : Sm (cutAt D H) (cutAt D H') := fun b o z => by
  by_cases q : b = D
  · rw [q, cutAt_same] at z; cases z
  · rw [cutAt_ne q] at z
    rw [cutAt_ne q]
    exact e b o z
theorem cutAt_le {D : Addr} {H : Hp} : Sm (cutAt D H) H := fun b o z => by
  by_cases q : b = D
  · rw [q, cutAt_same] at z; cases z
  · rw [cutAt_ne q] at z
    exact z
theorem vis_up {W W' : Addr → Bool} {own own' : Ow} {H H' : Hp} {i j : Nat} (h1 : ∀ a o, own i a → H a = some o → own' j a ∧ H' a = some o) (h2 : Sm (hid W H) (hid W' H')) : Sm (vis W own H i) (vis W' own' H' j) := fun a o e => by
  by_cases q : own i a
  · rw [vis_own q] at e
    obtain ⟨z1, z2⟩ := h1 a o q e
    rw [vis_own z1]
    exact z2
  · rw [vis_not q] at e
    obtain ⟨z1, z2⟩ := nom_some e
    have z3 := h2 a o z1
    by_cases q' : own' j a
    · rw [vis_own q']
      exact (hid_some z3).2
    · rw [vis_not q', z3]
      exact z2

def SlD (K : PySem.W.Frag) (g : Option Addr) (W : Addr → Bool) (own : Ow) (H : Hp) (i : Nat) (v : V) : Sl → Prop
  | .no => True
  | .dat d => Dv K g (hid W H) v d
  | .own ds => ∃ a xs, OnlyOwn own i a ∧ v = .ref a ∧ H a = some (.lst xs) ∧ DvAll K g (hid W H) xs ds
  | .reg ds => ∃ a xs, own i a ∧ v = .ref a ∧ H a = some (.lst xs) ∧ DvAll K g (cutAt a (vis W own H i)) xs ds

structure Stt (K : PySem.W.Frag) (w : Wd) (W : Addr → Bool) (own : Ow) (r : En) (σ : L2.St) (H : Hp) : Prop where
  ok : OkW K w.g W H
  base : Ext w.g w.H0 H
  w0 : ∀ a, w.W0 a = true → W a = true
  g0 : ∀ a, w.g = some a → w.W0 a = true
  oW : ∀ i a, own i a → W a = true ∧ w.H0 a = none ∧ w.g ≠ some a
  inj : ∀ i j a, own i a → own j a → i = j ∧ Mut H a
  len : r.length = σ.length
  sl : ∀ i d, r[i]? = some d → d ≠ .no → ∃ v, σ[i]? = some (some v) ∧ SlD K w.g W own H i v d

section
variable {K : PySem.W.Frag} {w : Wd} {W : Addr → Bool} {own : Ow} {r : En} {σ : L2.St} {H H' : Hp}
theorem Mut.up {a : Addr} (h : Mut H a) (e : ∀ o, H a = some o → H' a = some o) : Mut H' a := h.imp (fun ⟨xs, z⟩ => ⟨xs, e _ z⟩) fun ⟨xs, z⟩ => ⟨xs, e _ z⟩
theorem SlD.ext {g : Option Addr} {i : Nat} {v : V} {d : Sl} (gW : ∀ a, g = some a → W a = true) (og : ∀ i a, own i a → g ≠ some a) (e : Ext g H H') (h : SlD K g W own H i v d) : SlD K g W own H' i v d := by
  cases d with
  | no => trivial
  | dat d => exact Dv.mono (e.hid gW) _ _ h
  | own ds =>
    obtain ⟨a, xs, h1, h2, h3, h4⟩ := h
    exact ⟨a, xs, h1, h2, e _ _ (og i a h1.1) h3, DvAll.mono (e.hid gW) _ _ h4⟩
  | reg ds =>
    obtain ⟨a, xs, h1, h2, h3, h4⟩ := h
    exact ⟨a, xs, h1, h2, e _ _ (og i a h1) h3, DvAll.mono (cutAt_sm (vis_up (fun a o q z => ⟨q, e a o (og i a q) z⟩) (e.hid gW))) _ _ h4⟩
theorem Stt.ext (S : Stt K w W own r σ H) (e : Ext w.g H H') (b : OkW K w.g W H') : Stt K w W own r σ H' :=
  ⟨b, S.base.trans e, S.w0, S.g0, S.oW, fun i j a h1 h2 => ⟨(S.inj i j a h1 h2).1, (S.inj i j a h1 h2).2.up fun o z => e a o (S.oW i a h1).2.2 z⟩, S.len, fun i d h n => by
    obtain ⟨v, h1, h2⟩ := S.sl i d h n
    exact ⟨v, h1, h2.ext S.ok.gW (fun i a q => (S.oW i a q).2.2) e⟩⟩
theorem Stt.dat (S : Stt K w W own r σ H) {i : Nat} {d : Da} (h : r[i]? = some (.dat d)) : ∃ v, σ[i]? = some (some v) ∧ Dv K w.g (hid W H) v d := by
  obtain ⟨v, h1, h2⟩ := S.sl i _ h (fun z => by cases z)
  exact ⟨v, h1, h2⟩
theorem OnlyOwn.off {i j : Nat} {a : Addr} (h : OnlyOwn own j a) (n : j ≠ i) : OnlyOwn (fun j a => j ≠ i ∧ own j a) j a := ⟨⟨n, h.1⟩, fun b hb => h.2 b hb.2⟩
/-- a slot is set to a datum (what that slot owned is let go) -/
theorem Stt.setS (S : Stt K w W own r σ H) {i : Nat} {v : V} {d : Da} (hd : Dv K w.g (hid W H) v d) : Stt K w W (fun j a => j ≠ i ∧ own j a) (r.set i (.dat d)) (σ.set i (some v)) H := by
  refine ⟨S.ok, S.base, S.w0, S.g0, fun j a h => S.oW j a h.2, fun j k a h1 h2 => S.inj j k a h1.2 h2.2, by rw [List.length_set, List.length_set]; exact S.len, fun j u h n => ?_⟩
  by_cases hj : j = i
  · subst hj
    have hl : j < r.length := by
      have := (List.getElem?_eq_some_iff.mp h).1
      rwa [List.length_set] at this
    rw [List.getElem?_set_self hl] at h
    cases h
    exact ⟨v, by rw [List.getElem?_set_self (by rw [← S.len]; exact hl)], hd⟩
  · rw [List.getElem?_set_ne (Ne.symm hj)] at h
    obtain ⟨u', h1, h2⟩ := S.sl j u h n
    refine ⟨u', by rw [List.getElem?_set_ne (Ne.symm hj)]; exact h1, ?_⟩
    cases u with
    | no => trivial
    | dat d => exact h2
    | own ds =>
      obtain ⟨a, xs, q1, q2⟩ := h2
      exact ⟨a, xs, q1.off hj, q2⟩
    | reg ds =>
      obtain ⟨a, xs, q1, q2, q3, q4⟩ := h2
      exact ⟨a, xs, ⟨hj, q1⟩, q2, q3, DvAll.mono (cutAt_sm (vis_up (fun a o q z => ⟨⟨hj, q⟩, z⟩) fun _ _ z => z)) _ _ q4⟩
theorem Stt.set (S : Stt K w W own r σ H) {i : Nat} {v : V} {d : Da} (hd : Dv K w.g (hid W H) v d) : ∃ own', Stt K w W own' (r.set i (.dat d)) (σ.set i (some v)) H := ⟨_, S.setS hd⟩
/-- slots forgotten -/
def wipeD (r : En) : List Nat → En
  | [] => r
  | v :: vs => (wipeD r vs).set v .no
theorem wipeD_len (r : En) : ∀ vs : List Nat, (wipeD r vs).length = r.length
  | [] => rfl
  | v :: vs => by unfold wipeD; rw [List.length_set, wipeD_len r vs]
theorem Stt.forget (S : Stt K w W own r σ H) (i : Nat) (x : Option V) : Stt K w W own (r.set i .no) (σ.set i x) H := by
  refine ⟨S.ok, S.base, S.w0, S.g0, S.oW, S.inj, by rw [List.length_set, List.length_set]; exact S.len, fun j u h n => ?_⟩
  by_cases hj : j = i
  · subst hj
    have hl : j < r.length := by
      have := (List.getElem?_eq_some_iff.mp h).1
      rwa [List.length_set] at this
    rw [List.getElem?_set_self hl] at h
    cases h
    exact absurd rfl n
  · rw [List.getElem?_set_ne (Ne.symm hj)] at h
    obtain ⟨u', h1, h2⟩ := S.sl j u h n
    exact ⟨u', by rw [List.getElem?_set_ne (Ne.symm hj)]; exact h1, h2⟩
theorem Stt.wipe (S : Stt K w W own r σ H) : ∀ vs : List Nat, Stt K w W own (wipeD r vs) (L2.wipe σ vs) H
  | [] => S
  | v :: vs => by
    show Stt K w W own ((wipeD r vs).set v .no) ((L2.wipe σ vs).set v none) H
    exact (S.wipe vs).forget v none
end
end Pd
/-! Contracts that know that no repr is under way; the judgements of pure data. -/
namespace Pd
open PySem PySem.Spec PyProof.Rows L2

/-! ### contracts with the guards told -/
structure FnG (P : Program) (wd : World) (K : PySem.W.Frag) (mg : Str → Option Value) (base : Heap) (CX : CXT) (k : Nat) (f : Addr) (fd : FuncData) (ps : List Str) (sp : Sp) : Prop where
  many : ∀ vs H Q E, sp vs H Q E → vs.length = ps.length
  goes : ∀ (A : Around) (outer : List Env) (s0 : Shared) (H : Hp) (args : Args) (us : List Value) (vs : List V) (Q : VK) (E : XK),
    Room k A → A.guards = some [] → Env0 P wd K mg base A outer s0 H → BindsTo s0 fd args (ps.zip us) → Vals vs us → sp vs H Q E →
      codeAny (model P wd) A (.call (.ref f) args) (CR CX outer P wd H s0 Q E) s0
theorem FnG.up {P : Program} {wd : World} {K : PySem.W.Frag} {mg : Str → Option Value} {base : Heap} {CX : CXT} {j k : Nat} {f : Addr} {fd : FuncData} {ps : List Str} {sp : Sp}
    (F : FnG P wd K mg base CX j f fd ps sp) (h : j ≤ k) : FnG P wd K mg base CX k f fd ps sp :=
  ⟨F.many, fun A outer s0 H args us vs Q E room => F.goes A outer s0 H args us vs Q E (room.mono h)⟩

/-- a def's body, the guards told -/
theorem fnG_of {CX : CXT} {P : Program} {wd : World} {K : PySem.W.Frag} {mg : Str → Option Value} {base : Heap} {k : Nat} {f : Addr} {nm qual : Str} {params : Arguments} {body : List Stmt} {sc : Scope}
    {dV kV doc pm cdv ct oc : Value} {an od : Option Addr} {osl : Array (Option Value)} {N ps : List Str} {sp : Sp}
    (at_f : K.lookup f = some ⟨oc, od, .func (PySem.W.fnOf nm qual params body sc dV kV doc pm an cdv ct), osl⟩)
    (at_c : PySem.W.codeIn K cdv qual = true) (S : FnScope N ps sc)
    (many : ∀ vs H Q E, sp vs H Q E → vs.length = ps.length)
    (inside : ∀ (A : Around) (outer : List Env) (s0 : Shared) (H : Hp) (vs : List V) (Q : VK) (E : XK), Room k (A.deeper (envOfC qual sc s0.heap.objs.size f cdv)) → A.guards = some [] → sp vs H Q E →
      ∃ t, PSs (cxOf CX P wd K mg base N qual sc f cdv A outer s0 H E) body t ∧ t { nx := fun _ H' => Q .non H', rt := Q } (start N vs) H) :
    FnG P wd K mg base CX (k + 1) f (PySem.W.fnOf nm qual params body sc dV kV doc pm an cdv ct) ps sp := by
  constructor
  · exact many
  · intro A outer s0 H args us vs Q E room hG z0 bd rel pre
    have keep0 : ∀ b o, base.get? b = some o → s0.heap.get? b = some o := fun b o e => (z0.bs b o e).1
    have inK : K.In s0.heap := z0.mod.kin.keeps keep0
    have nolim : s0.heap.NoLimit := z0.mod.nolimit.keeps keep0
    have kinds : ∀ y ∈ ps.zip us, sc.names.lookup y.1 = some .local ∨ (sc.names.lookup y.1 = some .cell ∧ ((cellsFrom (s0.heap.objs.size + 1) sc.names []).lookup y.1).isSome = true) := by
      rintro ⟨n, v⟩ hy
      cases S.par n (List.of_mem_zip hy).1 with
      | inl q => exact Or.inl q
      | inr q => exact Or.inr ⟨q, PySem.W.cellsFrom_some _ _ _ (Or.inl q)⟩
    apply codeAny_call_function room.depth (inK _ _ at_f) rfl S.co S.gen rfl (PySem.W.codeRec_of inK at_c) (bd _ _ _ _ ?_)
    apply wpAny_newFunctionEnv_cells S.kind kinds
    intro env ee s1 ic
    subst ee
    refine ⟨nolim.keeps ic.toInCall.keep, codeAny_func ?_⟩
    obtain ⟨t, runs, goal⟩ := inside A outer s0 H vs Q E (room.deeper _) hG pre
    have J := inv_start (CX := CX) (P := P) (w := wd) (K := K) (mg := mg) (base := base) (N := N) (ps := ps) (qual := qual) (scope := sc) (f := f) (cd := cdv) (E := E) S room.hd z0 (many _ _ _ _ pre) rel ic
    have last : ∀ {σ' : L2.St} {H' : Hp} {v : V} {u : Value} {s' : Shared}, Inv (cxOf CX P wd K mg base N qual sc f cdv A outer s0 H E) [] σ' H' s' → RelV v u → Q v H' → CE outer P wd H s0 Q u s' := by
      intro σ' H' v u s' I rv q
      exact ⟨v, H', I.os, I.bare, I.base, I.hok, rv, q⟩
    refine wpAny_mono (runs.run [] s1 (start N vs) H _ J goal) ?_ (fun e s' hs => hs)
    intro fl s' hs
    cases fl with
    | next =>
      obtain ⟨σ', H', I, q⟩ := hs
      exact last (v := V.non) (u := Value.none) I rfl q
    | ret u =>
      obtain ⟨v, σ', H', I, rv, q⟩ := hs
      exact last I rv q
    | brk =>
      obtain ⟨_, _, _, q⟩ := hs
      exact q.elim
    | cont =>
      obtain ⟨_, _, _, q⟩ := hs
      exact q.elim

section
variable {X : Cx} {CX : CXT} {k : Nat} {f : Addr} {fd : FuncData} {ps : List Str} {sp : Sp} {dvs : List V} {ds : List Value} {E : XK} {x : Str} {p pos : Pos} {e : Expr} {es : List Expr} {t : TA}
theorem run_G {pins : List (Addr × Obj)} {σ : L2.St} {H : Hp} {s : Shared} {Q : VK} {us : List Value} {vs : List V} (F : FnG X.prog X.w X.K X.mg X.base CX k f fd ps sp) (room : Room k X.A) (hG : X.A.guards = some [])
    (bd : Binds X.K fd ps ds) (dv : Vals dvs ds) (px : Passes CX X E) (I : Inv X pins σ H s) (rel : Vals vs us) (pre : sp (vs ++ dvs) H Q E) : wpAny (model X.prog X.w) X.A (call (.ref f) us) (EP X pins σ Q) X.xe s := by
  have rel2 : Vals (vs ++ dvs) (us ++ ds) := rel.append dv
  have len2 : (us ++ ds).length = ps.length := rel2.length.symm.trans (F.many _ _ _ _ pre)
  have all := F.goes X.A X.stack s H ⟨us, []⟩ (us ++ ds) (vs ++ dvs) Q E room hG I.env0 (bd s us I.kIn len2) rel2 pre
  refine wpAny_call (codeAny_mono all ?_)
  intro r s' out
  match r, out with
  | .error e, out => exact px pins σ H s e s' I out
  | .ok (.ret u), out => exact I.after out
  | .ok .next, out => exact out.elim
  | .ok .brk, out => exact out.elim
  | .ok .cont, out => exact out.elim
/-- f(..) -/
theorem pe_callG (F : FnG X.prog X.w X.K X.mg X.base CX k f fd ps sp) (room : Room k X.A) (hG : X.A.guards = some []) (gl : Gl X x) (at_x : X.mg x = some (.ref f)) (kp : PySem.W.keepIn X.K (.ref f) = true)
    (bd : Binds X.K fd ps ds) (dv : Vals dvs ds) (px : Passes CX X E) (args : PA X (e :: es) t) (nd : (x == ("__debug__" : Str)) = false := by decide)
    (st : starEach (e :: es) X.env = (false, eval e X.env) :: starEach es X.env := by rfl) (bk : (backTo pos (starEach es X.env)).any (·.1) = false := by rfl) :
    PE X (.Call (.Name x p) (e :: es) [] pos) (tCall sp dvs E t) := by
  constructor
  intro pins s σ H Q I pre
  apply wpAny_Call_Name_kw
  apply ld_glob I gl at_x _ nd
  refine PySem.W.callWith_K (h₀ := X.base) I.ok.mod.kin kp (thn (args.run pos pins s σ H _ I pre) ?_) st bk
  rintro us s1 ⟨vs, H1, I1, rel, q⟩
  exact ⟨I1.kIn, run_G F room hG bd dv px I1 rel q⟩
end

/-! ### a def of the text by its body -/
theorem FunG.ok {P : Program} {wd : World} {K : PySem.W.Frag} {mg : Str → Option Value} {base : Heap} {x qual : Str} {st : Stmt} {f : Addr} {fd : FuncData} {N ps : List Str} {k : Nat} {sp : Sp}
    (F : Fun K x qual st f fd) (S : FnScope N ps (defScope st)) (many : ∀ vs H Q E, sp vs H Q E → vs.length = ps.length)
    (inside : ∀ (cdv : Value) (A : Around) (outer : List Env) (s0 : Shared) (H : Hp) (vs : List V) (Q : VK) (E : XK), Room k (A.deeper (envOfC qual (defScope st) s0.heap.objs.size f cdv)) → A.guards = some [] → sp vs H Q E →
      ∃ t, PSs (cxOf CX0 P wd K mg base N qual (defScope st) f cdv A outer s0 H E).nox (defBody st) t ∧ t { nx := fun _ H' => Q .non H', rt := Q } (start N vs) H) :
    FnG P wd K mg base CX0 (k + 1) f fd ps sp := by
  obtain ⟨oc, od, kV, doc, pm, an, cdv, ct, osl, rfl, at_f, at_c⟩ := F.ex
  apply fnG_of at_f at_c S many
  intro A outer s0 H vs Q E room hG pre
  obtain ⟨t, h, q⟩ := inside cdv A outer s0 H vs Q E room hG pre
  exact ⟨t, h.nox, q⟩
end Pd
/-! Tuples without a dict of their own; the judgements of pure data; operators. -/
namespace Pd
open PySem PySem.Spec PyProof.Rows L2

/-! ### tuples, their objects told -/
def tupO (its : List Value) : Obj := { cls := .type "tuple", data := .seq its.toArray }
section
variable {X : Cx} {pos : Pos} {e : Expr} {es : List Expr} {t : TA}
theorem lay_tup {pins : List (Addr × Obj)} {σ : L2.St} {H : Hp} {s : Shared} {xs : List V} {its : List Value} (I : Inv X pins σ H s) (r : Vals xs its) (z : xs.length ≤ sizeLine) :
    H s.heap.objs.size = none ∧ Inv X pins σ (upd H s.heap.objs.size (.frz (tupO its) (.tup xs))) { s with heap := s.heap.push (tupO its) } := by
  refine ⟨I.hok.fresh (Nat.le_refl _), I.laid (t' := s.toks) (fun b u q => Heap.get?_push_of_some _ q) (Nat.le_refl _) ?_⟩
  have q : (s.heap.push (tupO its)).get? s.heap.objs.size = some (tupO its) := Heap.get?_push_size _ rfl
  exact ⟨q, z, its, r, _, q, rfl, _, rfl⟩
/-- what is wanted of a new tuple -/
def NewT (xs : List V) (H : Hp) (Q : VK) : Prop := ∀ p o, H p = none → o.dict = none → Q (.ref p) (upd H p (.frz o (.tup xs)))
theorem new_tup {pins : List (Addr × Obj)} {σ : L2.St} {H : Hp} {s : Shared} {xs : List V} {its : List Value} {Q : VK} (I : Inv X pins σ H s) (r : Vals xs its) (z : xs.length ≤ sizeLine) (q : NewT xs H Q) :
    EP X pins σ Q (.ref s.heap.objs.size) { s with heap := s.heap.push (tupO its) } := by
  obtain ⟨h1, h2⟩ := lay_tup I r z
  exact ⟨V.ref s.heap.objs.size, _, h2, rfl, q _ _ h1 rfl⟩
def tTupS (t : TA) : TE := fun σ H Q => t σ H fun xs H1 => xs.length ≤ sizeLine ∧ NewT xs H1 Q
theorem pe_tupS {c} (h : PA X es t) : PE X (.Tuple es c pos) (tTupS t) := by
  constructor
  intro pins s σ H Q I hq
  apply wpAny_Tuple_spliced
  refine thn (h.run pos pins s σ H _ I hq) ?_
  rintro us s1 ⟨xs, H1, I1, r, z, q⟩
  exact ⟨by rw [← r.length]; exact z, new_tup I1 r z q⟩
def rTupS (K : PySem.W.Frag) : List V → Hp → VK → Prop := fun xs H Q => ∃ p ys, xs = [.ref p] ∧ ((SqL K H p ys ∧ NewT ys H Q) ∨ (SqT K H p ys ∧ Q (.ref p) H))
theorem cr_tupS : CallR X (.type "tuple") (rTupS X.K) := by
  intro pins s σ H xs us Q I r h
  obtain ⟨p, ys, rfl, h⟩ := h
  obtain ⟨u, rfl, rx⟩ := vals1 r
  cases rx
  cases h with
  | inl h =>
    obtain ⟨its, r', pl, hz⟩ := I.list h.1
    refine call_tuple_list pl.isList (fun h' kp => ?_) ?_
    · have I1 : Inv X pins σ H { s with heap := h' } := I.kept (t' := s.toks) kp
      exact new_tup I1 r' hz h.2
    · have := r'.length
      rw [List.size_toArray]
      omega
  | inr h =>
    obtain ⟨its, r', pl, hz⟩ := I.tuple h.1
    exact call_tuple_same pl ⟨.ref p, H, I, rfl, h.2⟩
def rCatS (K : PySem.W.Frag) : R2 := fun x y H Q => ∃ a b xs ys, x = .ref a ∧ y = .ref b ∧ SqT K H a xs ∧ SqT K H b ys ∧ xs.length + ys.length ≤ sizeLine ∧
  (xs = [] → Q (.ref b) H) ∧ (ys = [] → Q (.ref a) H) ∧ NewT (xs ++ ys) H Q
theorem op_catS (cat0 : ∀ {prog : Program} {wd : World} {A : Around} {E : Value → Shared → Prop} {s : Shared} {t b : Addr} {ws : List Value} {Q : Value → Shared → Prop}, IsTup s.heap t ([] : List Value).toArray → IsTup s.heap b ws.toArray → Q (.ref b) s → wpAny (model prog wd) A (binaryOp .Add (.ref t) (.ref b)) Q E s) :
    OpR X (binaryOp .Add) (rCatS X.K) := by
  intro pins s σ H x y v u Q I rx ry h
  obtain ⟨a, b, xs, ys, rfl, rfl, ha, hb, hz, q0, q1, q2⟩ := h
  cases rx
  cases ry
  obtain ⟨its, r1, p1, _⟩ := I.tuple ha
  obtain ⟨its2, r2, p2, _⟩ := I.tuple hb
  by_cases hx : xs = []
  · subst hx
    cases r1
    exact cat0 p1 p2 ⟨.ref b, H, I, rfl, q0 rfl⟩
  · refine HT.cat_tup p1 p2 (fun z => hx (r1.nil_iff.mp z)) (fun z => ⟨.ref a, H, I, rfl, q1 (r2.nil_iff.mp z)⟩) (fun _ => ?_) ?_
    · exact new_tup I (r1.append r2) (by rw [List.length_append]; exact hz) q2
    · rw [← r1.length, ← r2.length]
      exact hz
end

/-! ### the judgements -/
abbrev TDE := En → (Da → Prop) → Prop
abbrev TDT := En → (Bool → Prop) → Prop
abbrev TDA := En → (List Da → Prop) → Prop
structure EnD where
  nx : En → Prop
  rt : Da → Prop
  bk : En → Prop := fun _ => False
  ct : En → Prop := fun _ => False
abbrev TDS := EnD → En → Prop
/-- what follows a datum -/
def Aft (K : PySem.W.Frag) (g : Option Addr) (W : Addr → Bool) (H : Hp) (Q : VK) (d : Da) : Prop :=
  ∀ v H', Ext g H H' → OkW K g W H' → Dv K g (hid W H') v d → Q v H'
def AftA (K : PySem.W.Frag) (g : Option Addr) (W : Addr → Bool) (H : Hp) (Q : List V → Hp → Prop) (ds : List Da) : Prop :=
  ∀ vs H', Ext g H H' → OkW K g W H' → DvAll K g (hid W H') vs ds → Q vs H'
def AftT (K : PySem.W.Frag) (g : Option Addr) (W : Addr → Bool) (H : Hp) (Q : Bool → Hp → Prop) (b : Bool) : Prop :=
  ∀ H', Ext g H H' → OkW K g W H' → Q b H'
def liE (K : PySem.W.Frag) (w : Wd) (t : TDE) : TE := fun σ H Q => ∃ W own r, Stt K w W own r σ H ∧ t r (Aft K w.g W H Q)
def liT (K : PySem.W.Frag) (w : Wd) (t : TDT) : TT := fun σ H Q => ∃ W own r, Stt K w W own r σ H ∧ t r (AftT K w.g W H Q)
def liA (K : PySem.W.Frag) (w : Wd) (t : TDA) : TA := fun σ H Q => ∃ W own r, Stt K w W own r σ H ∧ t r (AftA K w.g W H Q)
structure PEd (X : Cx) (w : Wd) (e : Expr) (t : TDE) : Prop where
  pe : PE X e (liE X.K w t)
  mo : ∀ r Q Q', (∀ d, Q d → Q' d) → t r Q → t r Q'
structure PTd (X : Cx) (w : Wd) (e : Expr) (t : TDT) : Prop where
  pt : PT X e (liT X.K w t)
  mo : ∀ r Q Q', (∀ b, Q b → Q' b) → t r Q → t r Q'
/-- .. and, or: whatever the whole is -/
structure PWd (X : Cx) (w : Wd) (e : Expr) (t : TDT) : Prop where
  pw : PW X e (liT X.K w t)
  mo : ∀ r Q Q', (∀ b, Q b → Q' b) → t r Q → t r Q'
structure PAd (X : Cx) (w : Wd) (es : List Expr) (t : TDA) : Prop where
  pa : PA X es (liA X.K w t)
  mo : ∀ r Q Q', (∀ d, Q d → Q' d) → t r Q → t r Q'

section
variable {X : Cx} {e a b : Expr} {es : List Expr} {pos : Pos} {w : Wd}
theorem weE {t t' : TE} (h : PE X e t) (le : ∀ σ H Q, t' σ H Q → t σ H Q) : PE X e t' := ⟨fun pins s σ H Q I q => h.run pins s σ H Q I (le _ _ _ q)⟩
theorem weT {t t' : TT} (h : PT X e t) (le : ∀ σ H Q, t' σ H Q → t σ H Q) : PT X e t' := ⟨fun pins s σ H Q I q => h.run pins s σ H Q I (le _ _ _ q)⟩
theorem weW {t t' : TT} (h : PW X e t) (le : ∀ σ H Q, t' σ H Q → t σ H Q) : PW X e t' := ⟨fun wh pins s σ H Q I q => h.run wh pins s σ H Q I (le _ _ _ q)⟩
theorem weA {t t' : TA} (h : PA X es t) (le : ∀ σ H Q, t' σ H Q → t σ H Q) : PA X es t' := ⟨fun p pins s σ H Q I q => h.run p pins s σ H Q I (le _ _ _ q)⟩
theorem PWd.pt {t : TDT} (h : PWd X w e t) : PTd X w e t := ⟨PW.pt h.pw, h.mo⟩

/-! one part, then something -/
theorem go1 {ta : TDE} (ha : PEd X w a ta) {W : Addr → Bool} {own : Ow} {r : En} {σ : L2.St} {H : Hp} (S : Stt X.K w W own r σ H) {P : Da → Prop} {R : V → Hp → Prop} (h : ta r P)
    (k : ∀ x v H1, Ext w.g H H1 → OkW X.K w.g W H1 → Dv X.K w.g (hid W H1) v x → P x → R v H1) : liE X.K w ta σ H R :=
  ⟨W, own, r, S, ha.mo _ _ _ (fun x px v H1 e1 k1 d1 => k x v H1 e1 k1 d1 px) h⟩
theorem go2 {ta tb : TDE} (ha : PEd X w a ta) (hb : PEd X w b tb) {W : Addr → Bool} {own : Ow} {r : En} {σ : L2.St} {H : Hp} (S : Stt X.K w W own r σ H) {P : Da → Da → Prop} {R : V → V → Hp → Prop} (h : ta r fun x => tb r fun y => P x y)
    (k : ∀ x y v u H1, Ext w.g H H1 → OkW X.K w.g W H1 → Dv X.K w.g (hid W H1) v x → Dv X.K w.g (hid W H1) u y → P x y → R v u H1) :
    liE X.K w ta σ H fun v H1 => liE X.K w tb σ H1 fun u H2 => R v u H2 :=
  go1 ha S h fun x v H1 e1 k1 d1 px => go1 hb (S.ext e1 k1) px fun y u H2 e2 k2 d2 py => k x y v u H2 (e1.trans e2) k2 (Dv.mono (e2.hid k1.gW) _ _ d1) d2 py
theorem goA {t : TDA} (ha : PAd X w es t) {W : Addr → Bool} {own : Ow} {r : En} {σ : L2.St} {H : Hp} (S : Stt X.K w W own r σ H) {P : List Da → Prop} {R : List V → Hp → Prop} (h : t r P)
    (k : ∀ xs vs H1, Ext w.g H H1 → OkW X.K w.g W H1 → DvAll X.K w.g (hid W H1) vs xs → P xs → R vs H1) : liA X.K w t σ H R :=
  ⟨W, own, r, S, ha.mo _ _ _ (fun x px v H1 e1 k1 d1 => k x v H1 e1 k1 d1 px) h⟩
theorem Aft.then {K : PySem.W.Frag} {g : Option Addr} {W : Addr → Bool} {H H1 : Hp} {Q : VK} {d : Da} (h : Aft K g W H Q d) (e : Ext g H H1) : Aft K g W H1 Q d := fun v H' e' k dv => h v H' (e.trans e') k dv

/-! ### names and constants -/
def dVar (i : Nat) : TDE := fun r Q => ∃ d, r[i]? = some (.dat d) ∧ Q d
def dC (d : Da) : TDE := fun _ Q => Q d
theorem ped_var (i : Nat) {x : Str} {p : Pos} (hN : X.N[i]? = some x := by rfl) (hv : Vis X.env.scope x := by first | exact Or.inl rfl | exact Or.inr (Or.inl rfl) | exact Or.inr (Or.inr rfl)) (hd : (x == ("__debug__" : Str)) = false := by decide)
    (hcd : (x == ("__classdict__" : Str)) = false := by decide) : PEd X w (.Name x p) (dVar i) := by
  refine ⟨weE (pe_var hN hv hd hcd) ?_, fun r Q Q' q ⟨d, h1, h2⟩ => ⟨d, h1, q d h2⟩⟩
  rintro σ H Q ⟨W, own, r, S, d, h1, h2⟩
  obtain ⟨v, e1, dv⟩ := S.dat h1
  exact ⟨v, e1, h2 v H Ext.refl S.ok dv⟩
theorem ped_c {t : TE} {d : Da} {v : V} (h : PE X e t) (ht : ∀ σ H Q, Q v H → t σ H Q) (hd : ∀ K g H, Dv K g H v d) : PEd X w e (dC d) := by
  refine ⟨weE h ?_, fun r Q Q' q h => q d h⟩
  rintro σ H Q ⟨W, own, r, S, h1⟩
  exact ht σ H Q (h1 v H Ext.refl S.ok (hd _ _ _))
theorem ped_int {i j p} : PEd X w (.Constant (.int i) j p) (dC (.int i)) := ped_c pe_int (fun _ _ _ q => q) fun _ _ _ => .int i
theorem ped_bl {i j p} : PEd X w (.Constant (.bool i) j p) (dC (.bl i)) := ped_c pe_bl (fun _ _ _ q => q) fun _ _ _ => .bl i
theorem ped_non {j p} : PEd X w (.Constant .none j p) (dC .non) := ped_c pe_non (fun _ _ _ q => q) fun _ _ _ => .non
theorem ped_str {i j p} : PEd X w (.Constant (.str i) j p) (dC (.str i)) := ped_c pe_str (fun _ _ _ q => q) fun _ _ _ => .str i

/-! ### two operands -/
abbrev DD := Da → Da → (Da → Prop) → Prop
def Mo2 (D : DD) : Prop := ∀ x y Q Q', (∀ d, Q d → Q' d) → D x y Q → D x y Q'
def Br2 (K : PySem.W.Frag) (R : R2) (D : DD) : Prop := ∀ (g : Option Addr) (W : Addr → Bool) (H : Hp) (v u : V) (x y : Da) (Q : VK), OkW K g W H → Dv K g (hid W H) v x → Dv K g (hid W H) u y → D x y (Aft K g W H Q) → R v u H Q
def dOp (D : DD) (ta tb : TDE) : TDE := fun r Q => ta r fun x => tb r fun y => D x y Q
theorem dOp_mo {D : DD} (m : Mo2 D) {ta tb : TDE} (ha : PEd X w a ta) (hb : PEd X w b tb) : ∀ r Q Q', (∀ d, Q d → Q' d) → dOp D ta tb r Q → dOp D ta tb r Q' :=
  fun r Q Q' q h => ha.mo _ _ _ (fun x hx => hb.mo _ _ _ (fun y hy => m x y _ _ q hy) hx) h
theorem mo_aft {D : DD} (m : Mo2 D) {K : PySem.W.Frag} {g : Option Addr} {W : Addr → Bool} {H H1 : Hp} {Q : VK} {x y : Da} (e : Ext g H H1) (h : D x y (Aft K g W H Q)) : D x y (Aft K g W H1 Q) := m _ _ _ _ (fun d q => q.then e) h
theorem ped_bin {op : Operator} {R : R2} {D : DD} {ta tb : TDE} (ho : OpR X (binaryOp op) R) (m : Mo2 D) (br : Br2 X.K R D) (ha : PEd X w a ta) (hb : PEd X w b tb) : PEd X w (.BinOp a op b pos) (dOp D ta tb) := by
  refine ⟨weE (pe_op ho ha.pe hb.pe) ?_, dOp_mo m ha hb⟩
  rintro σ H Q ⟨W, own, r, S, h⟩
  exact go2 ha hb S h fun x y v u H1 e1 k1 d1 d2 p => br _ _ _ _ _ _ _ _ k1 d1 d2 (mo_aft m e1 p)
theorem ped_cmp {op : CmpOp} {R : R2} {D : DD} {ta tb : TDE} (ho : OpR X (compareOp op) R) (hm : behindInMarks op b = false) (m : Mo2 D) (br : Br2 X.K R D) (ha : PEd X w a ta) (hb : PEd X w b tb) : PEd X w (.Compare a [op] [b] pos) (dOp D ta tb) := by
  refine ⟨weE (pe_cmpR ho ha.pe hb.pe hm) ?_, dOp_mo m ha hb⟩
  rintro σ H Q ⟨W, own, r, S, h⟩
  exact go2 ha hb S h fun x y v u H1 e1 k1 d1 d2 p => br _ _ _ _ _ _ _ _ k1 d1 d2 (mo_aft m e1 p)
theorem ped_ix {R : R2} {D : DD} {ta tb : TDE} (ho : IxR X R) (hs : PlainIx b) (m : Mo2 D) (br : Br2 X.K R D) (ha : PEd X w a ta) (hb : PEd X w b tb) : PEd X w (.Subscript a b pos) (dOp D ta tb) := by
  refine ⟨weE (pe_ix ho ha.pe hb.pe hs) ?_, dOp_mo m ha hb⟩
  rintro σ H Q ⟨W, own, r, S, h⟩
  exact go2 ha hb S h fun x y v u H1 e1 k1 d1 d2 p => br _ _ _ _ _ _ _ _ k1 d1 d2 (mo_aft m e1 p)
/-- one operand -/
abbrev D1 := Da → (Da → Prop) → Prop
def Mo1 (D : D1) : Prop := ∀ x Q Q', (∀ d, Q d → Q' d) → D x Q → D x Q'
def Br1 (K : PySem.W.Frag) (R : V → Hp → VK → Prop) (D : D1) : Prop := ∀ (g : Option Addr) (W : Addr → Bool) (H : Hp) (v : V) (x : Da) (Q : VK), OkW K g W H → Dv K g (hid W H) v x → D x (Aft K g W H Q) → R v H Q
def dUn (D : D1) (ta : TDE) : TDE := fun r Q => ta r fun x => D x Q
theorem ped_un {op : UnaryOp} {R : V → Hp → VK → Prop} {D : D1} {ta : TDE} (ho : UnR X (unaryOp op) R) (m : Mo1 D) (br : Br1 X.K R D) (ha : PEd X w a ta) : PEd X w (.UnaryOp op a pos) (dUn D ta) := by
  refine ⟨weE (pe_un ho ha.pe) ?_, fun r Q Q' q h => ha.mo _ _ _ (fun x hx => m x _ _ q hx) h⟩
  rintro σ H Q ⟨W, own, r, S, h⟩
  exact go1 ha S h fun x v H1 e1 k1 d1 p => br _ _ _ _ _ _ k1 d1 (m _ _ _ (fun d q => q.then e1) p)
end
end Pd
/-! Operators on data. -/
namespace Pd
open PySem PySem.Spec PyProof.Rows L2

/-! ### data as the library's -/
mutual
def toP : Da → PyData
  | .non => .none
  | .bl b => .bool b
  | .int i => .int i
  | .str x => .str x
  | .lst xs => .list (toPs xs)
  | .tup xs => .tuple (toPs xs)
  | .tpw xs => .tuple (toPs xs)
  | .dct _ => .dict []
  | .bag => .dict []
  | .raw _ => .dict []
  | .fix _ => .dict []
def toPs : List Da → List PyData
  | [] => []
  | x :: xs => toP x :: toPs xs
end
theorem toPs_map : ∀ xs : List Da, toPs xs = xs.map toP
  | [] => by simp [toPs]
  | x :: xs => by simp [toPs, toPs_map xs]
mutual
def canP : Da → Bool
  | .non => true
  | .bl _ => true
  | .int _ => true
  | .str _ => true
  | .lst xs => canPs xs
  | .tup xs => canPs xs
  | .tpw xs => canPs xs
  | .dct _ => false
  | .bag => false
  | .raw _ => false
  | .fix _ => false
def canPs : List Da → Bool
  | [] => true
  | x :: xs => canP x && canPs xs
end
theorem canPs_all : ∀ xs : List Da, canPs xs = xs.all canP
  | [] => by simp [canPs]
  | x :: xs => by simp [canPs, canPs_all xs]
mutual
theorem Dv.dp {K : PySem.W.Frag} {g : Option Addr} {H : Hp} : ∀ (d : Da) (v : V), Dv K g H v d → canP d = true → Dp K H v (toP d)
  | .non, _, h, _ => by cases h; exact .non
  | .bl _, _, h, _ => by cases h; exact .bl _
  | .int _, _, h, _ => by cases h; exact .int _
  | .str _, _, h, _ => by cases h; exact .str _
  | .lst ds, _, h, c => by
    cases h with
    | lst h1 h2 =>
      rw [toP]
      exact .lst (SqL.of h1) (DvAll.dp ds _ h2 (by rw [canP] at c; exact c))
  | .tup ds, _, h, c => by
    cases h with
    | tup h1 h2 =>
      rw [toP]
      exact .tup h1.sq (DvAll.dp ds _ h2 (by rw [canP] at c; exact c))
  | .tpw ds, _, h, c => by
    cases h with
    | tpw h1 h2 =>
      rw [toP]
      exact .tup h1 (DvAll.dp ds _ h2 (by rw [canP] at c; exact c))
  | .dct _, _, _, c => by rw [canP] at c; cases c
  | .bag, _, _, c => by rw [canP] at c; cases c
  | .raw _, _, _, c => by rw [canP] at c; cases c
  | .fix _, _, _, c => by rw [canP] at c; cases c
theorem DvAll.dp {K : PySem.W.Frag} {g : Option Addr} {H : Hp} : ∀ (ds : List Da) (vs : List V), DvAll K g H vs ds → canPs ds = true → DpAll K H vs (toPs ds)
  | [], _, h, _ => by cases h; rw [toPs]; exact .nil
  | d :: ds, _, h, c => by
    cases h with
    | cons h1 h2 =>
      rw [canPs, Bool.and_eq_true] at c
      rw [toPs]
      exact .cons (Dv.dp d _ h1 c.1) (DvAll.dp ds _ h2 c.2)
end
/-- comparable by == -/
def shp (d : Da) : Bool := canP d && SeqAt.shaped (toP d)
/-- == -/
def eqd (x y : Da) : Bool := PyData.eqv (toP x) (toP y)

section
variable {K : PySem.W.Frag} {g : Option Addr} {W : Addr → Bool} {H : Hp} {Q : VK}
theorem Aft.now {d : Da} {v : V} (h : Aft K g W H Q d) (k : OkW K g W H) (dv : Dv K g (hid W H) v d) : Q v H := h v H Ext.refl k dv
theorem Aft.newL {p : Addr} {xs : List V} {ds : List Da} (h : Aft K g W H Q (.lst ds)) (k : OkW K g W H) (np : H p = none) (dv : DvAll K g (hid W H) xs ds) : Q (.ref p) (upd H p (.lst xs)) := by
  obtain ⟨e, k', s, q⟩ := k.new (o := .lst xs) np
  exact h _ _ e k' (.lst q (DvAll.mono s _ _ dv))
theorem Aft.newT {xs : List V} {ds : List Da} (h : Aft K g W H Q (.tup ds)) (k : OkW K g W H) (dv : DvAll K g (hid W H) xs ds) : NewT xs H Q := by
  intro p o np no
  obtain ⟨e, k', s, q⟩ := k.new (o := .frz o (.tup xs)) np
  exact h _ _ e k' (.tup (.inl ⟨o, q, no⟩) (DvAll.mono s _ _ dv))
theorem Aft.newW {p : Addr} {xs : List V} {ds : List Da} (h : Aft K g W H Q (.tpw ds)) (k : OkW K g W H) (np : H p = none) (dv : DvAll K g (hid W H) xs ds) : Q (.ref p) (upd H p (.tup xs)) := by
  obtain ⟨e, k', s, q⟩ := k.new (o := .tup xs) np
  exact h _ _ e k' (.tpw (.inl (.inl q)) (DvAll.mono s _ _ dv))
theorem sq_hid {a : Addr} {xs : List V} (h : SqT K (hid W H) a xs) : SqT K H a xs := sqt_mono hid_sub h
end

/-! ### + -/
def addD : DD := fun x y Q => match x, y with
  | .int i, .int j => Q (.int (i + j))
  | .str a, .str b => a.length + b.length ≤ sizeLine ∧ Q (.str (a ++ b))
  | .lst xs, .lst ys => xs.length + ys.length ≤ sizeLine ∧ Q (.lst (xs ++ ys))
  | .tup xs, .tup ys => xs.length + ys.length ≤ sizeLine ∧ Q (.tup (xs ++ ys))
  | _, _ => False
theorem addD_mo : Mo2 addD := by
  intro x y Q Q' q h
  unfold addD at h ⊢
  split at h
  · exact q _ h
  · exact ⟨h.1, q _ h.2⟩
  · exact ⟨h.1, q _ h.2⟩
  · exact ⟨h.1, q _ h.2⟩
  · exact h.elim
def rAddU (K : PySem.W.Frag) : R2 := fun x y H Q => ((rI0 (fun i j => .int (i + j)) x y H Q ∨ (∃ i j, x = .str i ∧ y = .str j ∧ i.length + j.length ≤ sizeLine ∧ Q (.str (i ++ j)) H)) ∨ rCat x y H Q) ∨ rCatS K x y H Q
section
variable {X : Cx}
theorem op_addU : OpR X (binaryOp .Add) (rAddU X.K) := ((op_add.or op_add_str).or op_cat).or (op_catS fun h1 h2 h3 => cat_tup0 h1 h2 h3)
theorem addD_br : Br2 X.K (rAddU X.K) addD := by
  intro g W H v u x y Q k dx dy h
  unfold addD at h
  split at h
  · cases dx; cases dy
    exact .inl (.inl (.inl ⟨_, _, rfl, rfl, h.now k (.int _)⟩))
  · cases dx; cases dy
    exact .inl (.inl (.inr ⟨_, _, rfl, rfl, h.1, h.2.now k (.str _)⟩))
  · cases dx with
    | lst a1 a2 =>
      cases dy with
      | lst b1 b2 =>
        exact .inl (.inr ⟨_, _, _, _, rfl, rfl, (hid_some a1).2, (hid_some b1).2, by rw [a2.len, b2.len]; exact h.1, fun p np => h.2.newL k np (a2.app b2)⟩)
  · cases dx with
    | tup a1 a2 =>
      cases dy with
      | tup b1 b2 =>
        refine .inr ⟨_, _, _, _, rfl, rfl, sq_hid a1.sq, sq_hid b1.sq, by rw [a2.len, b2.len]; exact h.1, fun z => ?_, fun z => ?_, h.2.newT k (a2.app b2)⟩
        · subst z
          cases a2
          exact h.2.now k (.tup b1 b2)
        · subst z
          cases b2
          exact h.2.now k (by rw [List.append_nil]; exact .tup a1 a2)
  · exact h.elim
end

/-! ### ints -/
def intD (C : Int → Int → Prop) (f : Int → Int → Int) : DD := fun x y Q => match x, y with
  | .int i, .int j => C i j ∧ Q (.int (f i j))
  | _, _ => False
theorem intD_mo {C : Int → Int → Prop} {f : Int → Int → Int} : Mo2 (intD C f) := by
  intro x y Q Q' q h
  unfold intD at h ⊢
  split at h
  · exact ⟨h.1, q _ h.2⟩
  · exact h.elim
theorem intD_br {K : PySem.W.Frag} {C : Int → Int → Prop} {f : Int → Int → Int} : Br2 K (rI C fun i j => .int (f i j)) (intD C f) := by
  intro g W H v u x y Q k dx dy h
  unfold intD at h
  split at h
  · cases dx; cases dy
    exact ⟨_, _, rfl, rfl, h.1, h.2.now k (.int _)⟩
  · exact h.elim
def CMulA (i j : Int) : Prop := CMul i j ∨ CMulW i j
def CDivA (i j : Int) : Prop := CDiv i j ∨ CDivW i j
def subD : DD := intD (fun _ _ => True) fun i j => i - j
def mulD : DD := intD CMulA fun i j => i * j
def fdivD : DD := intD CDivA fun i j => i / j
def modD : DD := intD (fun _ j => 0 < j) fun i j => i % j
def powD : DD := intD CPow fun i j => i ^ j.toNat
section
variable {X : Cx}
theorem rI_or {C C' : Int → Int → Prop} {f : Int → Int → V} {h : Value → Value → Sem Value} (a : OpR X h (rI C f)) (b : OpR X h (rI C' f)) : OpR X h (rI (fun i j => C i j ∨ C' i j) f) := by
  intro pins s σ H x y v u Q I rx ry q
  obtain ⟨i, j, e1, e2, c, q⟩ := q
  rcases c with c | c
  · exact a pins s σ H x y v u Q I rx ry ⟨i, j, e1, e2, c, q⟩
  · exact b pins s σ H x y v u Q I rx ry ⟨i, j, e1, e2, c, q⟩
theorem op_subT : OpR X (binaryOp .Sub) (rI (fun _ _ => True) fun i j => .int (i - j)) := by
  intro pins s σ H x y v u Q I rx ry q
  obtain ⟨i, j, e1, e2, _, q⟩ := q
  exact op_sub pins s σ H x y v u Q I rx ry ⟨i, j, e1, e2, q⟩
end
section
variable {X : Cx} {w : Wd} {a b : Expr} {pos : Pos} {ta tb : TDE}
theorem ped_add (ha : PEd X w a ta) (hb : PEd X w b tb) : PEd X w (.BinOp a .Add b pos) (dOp addD ta tb) := ped_bin op_addU addD_mo addD_br ha hb
theorem ped_sub (ha : PEd X w a ta) (hb : PEd X w b tb) : PEd X w (.BinOp a .Sub b pos) (dOp subD ta tb) := ped_bin op_subT intD_mo intD_br ha hb
theorem ped_mul (ha : PEd X w a ta) (hb : PEd X w b tb) : PEd X w (.BinOp a .Mult b pos) (dOp mulD ta tb) := ped_bin (rI_or op_mul op_mulW) intD_mo intD_br ha hb
theorem ped_fdiv (ha : PEd X w a ta) (hb : PEd X w b tb) : PEd X w (.BinOp a .FloorDiv b pos) (dOp fdivD ta tb) := ped_bin (rI_or op_fdiv op_fdivW) intD_mo intD_br ha hb
theorem ped_mod (ha : PEd X w a ta) (hb : PEd X w b tb) : PEd X w (.BinOp a .Mod b pos) (dOp modD ta tb) := ped_bin op_mod intD_mo intD_br ha hb
theorem ped_pow (ha : PEd X w a ta) (hb : PEd X w b tb) : PEd X w (.BinOp a .Pow b pos) (dOp powD ta tb) := ped_bin op_pow intD_mo intD_br ha hb
/-- [..] * n -/
def repD : DD := fun x y Q => match x, y with
  | .lst xs, .int n => -(2 ^ 63) ≤ n ∧ n < 2 ^ 63 ∧ xs.length * n.toNat ≤ sizeLine ∧ Q (.lst (List.replicate n.toNat xs).flatten)
  | _, _ => False
theorem repD_mo : Mo2 repD := by
  intro x y Q Q' q h
  unfold repD at h ⊢
  split at h
  · exact ⟨h.1, h.2.1, h.2.2.1, q _ h.2.2.2⟩
  · exact h.elim
theorem DvAll.rep {K : PySem.W.Frag} {g : Option Addr} {H : Hp} {xs : List V} {ds : List Da} (h : DvAll K g H xs ds) : ∀ n : Nat, DvAll K g H (List.replicate n xs).flatten (List.replicate n ds).flatten
  | 0 => .nil
  | n + 1 => by
    rw [List.replicate_succ, List.replicate_succ, List.flatten_cons, List.flatten_cons]
    exact h.app (h.rep n)
theorem repD_br : Br2 X.K rRep repD := by
  intro g W H v u x y Q k dx dy h
  unfold repD at h
  split at h
  · cases dy
    cases dx with
    | lst a1 a2 =>
      obtain ⟨h1, h2, h3, h4⟩ := h
      exact ⟨_, _, _, rfl, rfl, (hid_some a1).2, h1, h2, by rw [a2.len]; exact h3, fun p np => h4.newL k np (a2.rep _)⟩
  · exact h.elim
theorem ped_rep (ha : PEd X w a ta) (hb : PEd X w b tb) : PEd X w (.BinOp a .Mult b pos) (dOp repD ta tb) := ped_bin op_rep repD_mo repD_br ha hb
/-- -n -/
def negD : D1 := fun x Q => match x with
  | .int i => Q (.int (-i))
  | _ => False
theorem negD_mo : Mo1 negD := by
  intro x Q Q' q h
  unfold negD at h ⊢
  split at h
  · exact q _ h
  · exact h.elim
theorem ped_neg (ha : PEd X w a ta) : PEd X w (.UnaryOp .USub a pos) (dUn negD ta) := by
  refine ped_un un_neg negD_mo ?_ ha
  intro g W H v x Q k dx h
  unfold negD at h
  split at h
  · cases dx
    exact ⟨_, rfl, h.now k (.int _)⟩
  · exact h.elim
end

/-! ### comparisons -/
def eqD (neg : Bool) : DD := fun x y Q => shp x = true ∧ shp y = true ∧ Q (.bl (if neg then !eqd x y else eqd x y))
theorem eqD_mo {n : Bool} : Mo2 (eqD n) := fun _ _ _ _ q h => ⟨h.1, h.2.1, q _ h.2.2⟩
def ordD (fi : Int → Int → Bool) (fs : Str → Str → Bool) : DD := fun x y Q => match x, y with
  | .int i, .int j => Q (.bl (fi i j))
  | .str i, .str j => Q (.bl (fs i j))
  | _, _ => False
theorem ordD_mo {fi : Int → Int → Bool} {fs : Str → Str → Bool} : Mo2 (ordD fi fs) := by
  intro x y Q Q' q h
  unfold ordD at h ⊢
  split at h
  · exact q _ h
  · exact q _ h
  · exact h.elim
def ltS (a b : Str) : Bool := decide (a.cps.toList < b.cps.toList)
def ltD : DD := ordD (fun i j => decide (i < j)) fun a b => ltS a b
def leD : DD := ordD (fun i j => decide (i ≤ j)) fun a b => !ltS b a
def gtD : DD := ordD (fun i j => decide (j < i)) fun a b => ltS b a
def geD : DD := ordD (fun i j => decide (j ≤ i)) fun a b => !ltS a b
section
variable {X : Cx} {w : Wd} {a b : Expr} {pos : Pos} {ta tb : TDE}
theorem ordD_br {fi : Int → Int → Bool} {fs : Str → Str → Bool} : Br2 X.K (fun x y H Q => rI0 (fun i j => .bl (fi i j)) x y H Q ∨ ∃ i j, x = .str i ∧ y = .str j ∧ Q (.bl (fs i j)) H) (ordD fi fs) := by
  intro g W H v u x y Q k dx dy h
  unfold ordD at h
  split at h
  · cases dx; cases dy
    exact .inl ⟨_, _, rfl, rfl, h.now k (.bl _)⟩
  · cases dx; cases dy
    exact .inr ⟨_, _, rfl, rfl, h.now k (.bl _)⟩
  · exact h.elim
theorem shp_dp {K : PySem.W.Frag} {g : Option Addr} {W : Addr → Bool} {H : Hp} {v : V} {d : Da} (h : Dv K g (hid W H) v d) (s : shp d = true) : Dp K H v (toP d) ∧ SeqAt.shaped (toP d) = true := by
  unfold shp at s
  rw [Bool.and_eq_true] at s
  exact ⟨Dv.dp d _ (Dv.mono hid_sub _ _ h) s.1, s.2⟩
theorem eqD_br : Br2 X.K (rEqD X.K) (eqD false) := by
  intro g W H v u x y Q k dx dy h
  obtain ⟨h1, h2, h3⟩ := h
  obtain ⟨a1, a2⟩ := shp_dp dx h1
  obtain ⟨b1, b2⟩ := shp_dp dy h2
  exact ⟨_, _, a1, b1, a2, b2, h3.now k (.bl _)⟩
theorem neD_br : Br2 X.K (rNeD X.K) (eqD true) := by
  intro g W H v u x y Q k dx dy h
  obtain ⟨h1, h2, h3⟩ := h
  obtain ⟨a1, a2⟩ := shp_dp dx h1
  obtain ⟨b1, b2⟩ := shp_dp dy h2
  exact ⟨_, _, a1, b1, a2, b2, h3.now k (.bl _)⟩
theorem ped_eq {k : Nat} (hr : Room k X.A) (ha : PEd X w a ta) (hb : PEd X w b tb) : PEd X w (.Compare a [.Eq] [b] pos) (dOp (eqD false) ta tb) := ped_cmp (op_eqD hr.units) (nobehind _ (by decide) (by decide)) eqD_mo eqD_br ha hb
theorem ped_ne {k : Nat} (hr : Room k X.A) (ha : PEd X w a ta) (hb : PEd X w b tb) : PEd X w (.Compare a [.NotEq] [b] pos) (dOp (eqD true) ta tb) := ped_cmp (op_neD hr.units) (nobehind _ (by decide) (by decide)) eqD_mo neD_br ha hb
theorem ped_lt (ha : PEd X w a ta) (hb : PEd X w b tb) : PEd X w (.Compare a [.Lt] [b] pos) (dOp ltD ta tb) := ped_cmp (op_lt.or op_lt_str) (nobehind _ (by decide) (by decide)) ordD_mo ordD_br ha hb
theorem ped_le (ha : PEd X w a ta) (hb : PEd X w b tb) : PEd X w (.Compare a [.LtE] [b] pos) (dOp leD ta tb) := ped_cmp (op_le.or op_le_str) (nobehind _ (by decide) (by decide)) ordD_mo ordD_br ha hb
theorem ped_gt (ha : PEd X w a ta) (hb : PEd X w b tb) : PEd X w (.Compare a [.Gt] [b] pos) (dOp gtD ta tb) := ped_cmp (op_gt.or op_gt_str) (nobehind _ (by decide) (by decide)) ordD_mo ordD_br ha hb
theorem ped_ge (ha : PEd X w a ta) (hb : PEd X w b tb) : PEd X w (.Compare a [.GtE] [b] pos) (dOp geD ta tb) := ped_cmp (op_ge.or op_ge_str) (nobehind _ (by decide) (by decide)) ordD_mo ordD_br ha hb
end

/-! ### items -/
def ixD : DD := fun x y Q => match x, y with
  | .lst xs, .int i => ∃ d, atI xs i = some d ∧ Q d
  | .tup xs, .int i => ∃ d, atI xs i = some d ∧ Q d
  | .tpw xs, .int i => ∃ d, atI xs i = some d ∧ Q d
  | .str z, .int i => z.length ≤ sizeLine ∧ ∃ c, atI z.cps.toList i = some c ∧ Q (.str ⟨#[c]⟩)
  | _, _ => False
theorem ixD_mo : Mo2 ixD := by
  intro x y Q Q' q h
  unfold ixD at h ⊢
  split at h
  · obtain ⟨d, h1, h2⟩ := h; exact ⟨d, h1, q _ h2⟩
  · obtain ⟨d, h1, h2⟩ := h; exact ⟨d, h1, q _ h2⟩
  · obtain ⟨d, h1, h2⟩ := h; exact ⟨d, h1, q _ h2⟩
  · obtain ⟨h0, d, h1, h2⟩ := h; exact ⟨h0, d, h1, q _ h2⟩
  · exact h.elim
theorem DvAll.atI {K : PySem.W.Frag} {g : Option Addr} {H : Hp} {xs : List V} {ds : List Da} {i : Int} {d : Da} (h : DvAll K g H xs ds) (e : L2.atI ds i = some d) : ∃ v, L2.atI xs i = some v ∧ Dv K g H v d := by
  unfold L2.atI at e ⊢
  rw [h.len]
  cases q : ixN ds.length i with
  | none => rw [q] at e; cases e
  | some j =>
    rw [q] at e
    exact h.at (show ds[j]? = some d from e)
section
variable {X : Cx} {w : Wd} {a b : Expr} {pos : Pos} {ta tb : TDE}
theorem ixD_br : Br2 X.K (rIx X.K) ixD := by
  intro g W H v u x y Q k dx dy h
  unfold ixD at h
  split at h
  · cases dy
    cases dx with
    | lst a1 a2 =>
      obtain ⟨d, h1, h2⟩ := h
      obtain ⟨z, z1, z2⟩ := a2.atI h1
      exact .inl ⟨_, _, _, z, rfl, rfl, SqL.of (hid_some a1).2, z1, h2.now k z2⟩
  · cases dy
    cases dx with
    | tup a1 a2 =>
      obtain ⟨d, h1, h2⟩ := h
      obtain ⟨z, z1, z2⟩ := a2.atI h1
      exact .inr (.inl ⟨_, _, _, z, rfl, rfl, sq_hid a1.sq, z1, h2.now k z2⟩)
  · cases dy
    cases dx with
    | tpw a1 a2 =>
      obtain ⟨d, h1, h2⟩ := h
      obtain ⟨z, z1, z2⟩ := a2.atI h1
      exact .inr (.inl ⟨_, _, _, z, rfl, rfl, sq_hid a1, z1, h2.now k z2⟩)
  · cases dy
    cases dx
    obtain ⟨h0, c, h1, h2⟩ := h
    exact .inr (.inr ⟨_, _, c, rfl, rfl, h0, h1, h2.now k (.str _)⟩)
  · exact h.elim
theorem ped_at (hs : PlainIx b) (ha : PEd X w a ta) (hb : PEd X w b tb) : PEd X w (.Subscript a b pos) (dOp ixD ta tb) := ped_ix ix_seq hs ixD_mo ixD_br ha hb
end
end Pd
/-! Tests, calls, statements, loops, comprehensions on data. -/
namespace Pd
open PySem PySem.Spec PyProof.Rows L2

/-! ### tests -/
section
variable {X : Cx} {w : Wd} {e a b : Expr} {es : List Expr} {pos : Pos} {ta tb : TDE}
def dB (t : TDE) : TDT := fun r Q => t r fun d => ∃ c, d = .bl c ∧ Q c
theorem dB_mo {t : TDE} (m : ∀ r Q Q', (∀ d, Q d → Q' d) → t r Q → t r Q') : ∀ r Q Q', (∀ b, Q b → Q' b) → dB t r Q → dB t r Q' :=
  fun r Q Q' q h => m _ _ _ (fun d ⟨c, e, z⟩ => ⟨c, e, q c z⟩) h
theorem dB_in {t : TDE} (h : PEd X w e t) {σ : L2.St} {H : Hp} {Q : Bool → Hp → Prop} (q : liT X.K w (dB t) σ H Q) : liE X.K w t σ H fun x H1 => ∃ c, x = .bl c ∧ Q c H1 := by
  obtain ⟨W, own, r, S, q⟩ := q
  refine go1 h S q fun x v H1 e1 k1 d1 p => ?_
  obtain ⟨c, rfl, p⟩ := p
  cases d1
  exact ⟨c, rfl, p H1 e1 k1⟩
/-- a test by a value that is a truth -/
theorem ptd_val {t : TDE} (h : PEd X w e t) (he : ∀ whole, isTrue e X.env whole = (do let v ← whole; standAt e.pos; holding [v] (truthy v)) := by intro _; rfl) : PTd X w e (dB t) :=
  ⟨weT (pt_val h.pe he) fun σ H Q q => dB_in h q, dB_mo h.mo⟩
theorem ptd_cmp {op : CmpOp} {R : R2} {D : DD} (ho : OpR X (compareOp op) R) (hm : behindInMarks op b = false) (m : Mo2 D) (br : Br2 X.K R D) (ha : PEd X w a ta) (hb : PEd X w b tb) : PTd X w (.Compare a [op] [b] pos) (dB (dOp D ta tb)) := by
  refine ⟨weT (pt_cmpR ho ha.pe hb.pe hm) ?_, dB_mo (dOp_mo m ha hb)⟩
  intro σ H Q q
  obtain ⟨W, own, r, S, q⟩ := q
  refine go2 ha hb S q fun x y v u H1 e1 k1 d1 d2 p => br _ _ _ _ _ _ _ _ k1 d1 d2 (m _ _ _ _ ?_ p)
  rintro d ⟨c, rfl, p⟩ v' H' e' k' d'
  cases d'
  exact ⟨c, rfl, p H' (e1.trans e') k'⟩
theorem ptd_eq {k : Nat} (hr : Room k X.A) (ha : PEd X w a ta) (hb : PEd X w b tb) : PTd X w (.Compare a [.Eq] [b] pos) (dB (dOp (eqD false) ta tb)) := ptd_cmp (op_eqD hr.units) (nobehind _ (by decide) (by decide)) eqD_mo eqD_br ha hb
theorem ptd_ne {k : Nat} (hr : Room k X.A) (ha : PEd X w a ta) (hb : PEd X w b tb) : PTd X w (.Compare a [.NotEq] [b] pos) (dB (dOp (eqD true) ta tb)) := ptd_cmp (op_neD hr.units) (nobehind _ (by decide) (by decide)) eqD_mo neD_br ha hb
theorem ptd_lt (ha : PEd X w a ta) (hb : PEd X w b tb) : PTd X w (.Compare a [.Lt] [b] pos) (dB (dOp ltD ta tb)) := ptd_cmp (op_lt.or op_lt_str) (nobehind _ (by decide) (by decide)) ordD_mo ordD_br ha hb
theorem ptd_le (ha : PEd X w a ta) (hb : PEd X w b tb) : PTd X w (.Compare a [.LtE] [b] pos) (dB (dOp leD ta tb)) := ptd_cmp (op_le.or op_le_str) (nobehind _ (by decide) (by decide)) ordD_mo ordD_br ha hb
theorem ptd_gt (ha : PEd X w a ta) (hb : PEd X w b tb) : PTd X w (.Compare a [.Gt] [b] pos) (dB (dOp gtD ta tb)) := ptd_cmp (op_gt.or op_gt_str) (nobehind _ (by decide) (by decide)) ordD_mo ordD_br ha hb
theorem ptd_ge (ha : PEd X w a ta) (hb : PEd X w b tb) : PTd X w (.Compare a [.GtE] [b] pos) (dB (dOp geD ta tb)) := ptd_cmp (op_ge.or op_ge_str) (nobehind _ (by decide) (by decide)) ordD_mo ordD_br ha hb
/-- and, or, not as tests -/
def dAnd (t u : TDT) : TDT := fun r Q => t r fun c => if c = true then u r Q else Q false
def dOr (t u : TDT) : TDT := fun r Q => t r fun c => if c = true then Q true else u r Q
def dNot (t : TDT) : TDT := fun r Q => t r fun c => Q (!c)
variable {tA tB' : TDT} {rest : List Expr}
theorem pwd_and1 (ha : PTd X w a tA) : PWd X w (.BoolOp .And [a] pos) tA := ⟨pw_and1 ha.pt, ha.mo⟩
theorem pwd_or1 (ha : PTd X w a tA) : PWd X w (.BoolOp .Or [a] pos) tA := ⟨pw_or1 ha.pt, ha.mo⟩
theorem AftT.then {K : PySem.W.Frag} {g : Option Addr} {W : Addr → Bool} {H H1 : Hp} {Q : Bool → Hp → Prop} {d : Bool} (h : AftT K g W H Q d) (e : Ext g H H1) : AftT K g W H1 Q d := fun H' e' k => h H' (e.trans e') k
theorem ite_mo {c : Prop} [Decidable c] {A B A' B' : Prop} (h1 : A → A') (h2 : B → B') (h : if c then A else B) : if c then A' else B' := by
  by_cases q : c
  · rw [if_pos q] at h ⊢; exact h1 h
  · rw [if_neg q] at h ⊢; exact h2 h
theorem pwd_and (ha : PTd X w a tA) (hb : PWd X w (.BoolOp .And (b :: rest) pos) tB') : PWd X w (.BoolOp .And (a :: b :: rest) pos) (dAnd tA tB') := by
  refine ⟨weW (pw_and ha.pt hb.pw) ?_, fun r Q Q' q h => ha.mo _ _ _ (fun c z => ite_mo (hb.mo _ _ _ q) (q _) z) h⟩
  rintro σ H Q ⟨W, own, r, S, h⟩
  refine ⟨W, own, r, S, ha.mo _ _ _ (fun c z H1 e1 k1 => ite_mo (fun z => ?_) (fun z => z H1 e1 k1) z) h⟩
  exact ⟨W, own, r, S.ext e1 k1, hb.mo _ _ _ (fun d q => q.then e1) z⟩
theorem pwd_or (ha : PTd X w a tA) (hb : PWd X w (.BoolOp .Or (b :: rest) pos) tB') : PWd X w (.BoolOp .Or (a :: b :: rest) pos) (dOr tA tB') := by
  refine ⟨weW (pw_or ha.pt hb.pw) ?_, fun r Q Q' q h => ha.mo _ _ _ (fun c z => ite_mo (q _) (hb.mo _ _ _ q) z) h⟩
  rintro σ H Q ⟨W, own, r, S, h⟩
  refine ⟨W, own, r, S, ha.mo _ _ _ (fun c z H1 e1 k1 => ite_mo (fun z => z H1 e1 k1) (fun z => ?_) z) h⟩
  exact ⟨W, own, r, S.ext e1 k1, hb.mo _ _ _ (fun d q => q.then e1) z⟩
theorem ptd_not (ha : PTd X w a tA) : PTd X w (.UnaryOp .Not a pos) (dNot tA) := by
  refine ⟨weT (pt_not ha.pt) ?_, fun r Q Q' q h => ha.mo _ _ _ (fun c z => q _ z) h⟩
  rintro σ H Q ⟨W, own, r, S, h⟩
  exact ⟨W, own, r, S, ha.mo _ _ _ (fun c z H1 e1 k1 => z H1 e1 k1) h⟩
/-- .. as values -/
def dAndV (ta tb : TDE) : TDE := fun r Q => ta r fun d => ∃ c, d = .bl c ∧ if c = true then tb r Q else Q (.bl false)
def dOrV (ta tb : TDE) : TDE := fun r Q => ta r fun d => ∃ c, d = .bl c ∧ if c = true then Q (.bl true) else tb r Q
def dNotV (ta : TDE) : TDE := fun r Q => ta r fun d => ∃ c, d = .bl c ∧ Q (.bl (!c))
theorem ped_one {op} {t : TDE} (h : PEd X w a t) : PEd X w (.BoolOp op [a] pos) t := ⟨pe_one h.pe, h.mo⟩
theorem ped_and (ha : PEd X w a ta) (hb : PEd X w (.BoolOp .And (b :: rest) pos) tb) : PEd X w (.BoolOp .And (a :: b :: rest) pos) (dAndV ta tb) := by
  refine ⟨weE (pe_and ha.pe hb.pe) ?_, fun r Q Q' q h => ha.mo _ _ _ (fun d ⟨c, e, z⟩ => ⟨c, e, ite_mo (hb.mo _ _ _ q) (q _) z⟩) h⟩
  rintro σ H Q ⟨W, own, r, S, h⟩
  refine go1 ha S h fun x v H1 e1 k1 d1 p => ?_
  obtain ⟨c, rfl, p⟩ := p
  cases d1
  exact ⟨c, rfl, ite_mo (fun z => ⟨W, own, r, S.ext e1 k1, hb.mo _ _ _ (fun d q => q.then e1) z⟩) (fun z => (z.then e1).now k1 (.bl _)) p⟩
theorem ped_or (ha : PEd X w a ta) (hb : PEd X w (.BoolOp .Or (b :: rest) pos) tb) : PEd X w (.BoolOp .Or (a :: b :: rest) pos) (dOrV ta tb) := by
  refine ⟨weE (pe_or ha.pe hb.pe) ?_, fun r Q Q' q h => ha.mo _ _ _ (fun d ⟨c, e, z⟩ => ⟨c, e, ite_mo (q _) (hb.mo _ _ _ q) z⟩) h⟩
  rintro σ H Q ⟨W, own, r, S, h⟩
  refine go1 ha S h fun x v H1 e1 k1 d1 p => ?_
  obtain ⟨c, rfl, p⟩ := p
  cases d1
  exact ⟨c, rfl, ite_mo (fun z => (z.then e1).now k1 (.bl _)) (fun z => ⟨W, own, r, S.ext e1 k1, hb.mo _ _ _ (fun d q => q.then e1) z⟩) p⟩
theorem ped_not (ha : PEd X w a ta) : PEd X w (.UnaryOp .Not a pos) (dNotV ta) := by
  refine ⟨weE (pe_not ha.pe) ?_, fun r Q Q' q h => ha.mo _ _ _ (fun d ⟨c, e, z⟩ => ⟨c, e, q _ z⟩) h⟩
  rintro σ H Q ⟨W, own, r, S, h⟩
  refine go1 ha S h fun x v H1 e1 k1 d1 p => ?_
  obtain ⟨c, rfl, p⟩ := p
  cases d1
  exact ⟨c, rfl, (p.then e1).now k1 (.bl _)⟩
def dIfE (t : TDT) (ta tb : TDE) : TDE := fun r Q => t r fun c => if c = true then ta r Q else tb r Q
theorem ped_ifExp {c : Expr} (hc : PTd X w c tA) (ha : PEd X w a ta) (hb : PEd X w b tb) : PEd X w (.IfExp c a b pos) (dIfE tA ta tb) := by
  refine ⟨weE (pe_ifExp hc.pt ha.pe hb.pe) ?_, fun r Q Q' q h => hc.mo _ _ _ (fun d z => ite_mo (ha.mo _ _ _ q) (hb.mo _ _ _ q) z) h⟩
  rintro σ H Q ⟨W, own, r, S, h⟩
  refine ⟨W, own, r, S, hc.mo _ _ _ (fun c z H1 e1 k1 => ite_mo (fun z => ?_) (fun z => ?_) z) h⟩
  · exact ⟨W, own, r, S.ext e1 k1, ha.mo _ _ _ (fun d q => q.then e1) z⟩
  · exact ⟨W, own, r, S.ext e1 k1, hb.mo _ _ _ (fun d q => q.then e1) z⟩

/-! ### lists of expressions, displays -/
def dNil : TDA := fun _ Q => Q []
def dCons (t : TDE) (u : TDA) : TDA := fun r Q => t r fun d => u r fun ds => Q (d :: ds)
theorem pad_nil : PAd X w [] dNil := by
  refine ⟨weA pa_nil ?_, fun r Q Q' q h => q _ h⟩
  rintro σ H Q ⟨W, own, r, S, h⟩
  exact h [] H Ext.refl S.ok .nil
theorem pad_cons {t : TDE} {u : TDA} (h1 : PEd X w e t) (h2 : PAd X w es u) (he : starEach (e :: es) X.env = (false, eval e X.env) :: starEach es X.env := by rfl) : PAd X w (e :: es) (dCons t u) := by
  refine ⟨weA (pa_cons h1.pe h2.pa he) ?_, fun r Q Q' q h => h1.mo _ _ _ (fun d z => h2.mo _ _ _ (fun ds => q _) z) h⟩
  rintro σ H Q ⟨W, own, r, S, h⟩
  refine go1 h1 S h fun x v H1 e1 k1 d1 p => goA h2 (S.ext e1 k1) p fun xs vs H2 e2 k2 d2 q => ?_
  exact q (v :: vs) H2 (e1.trans e2) k2 (.cons (Dv.mono (e2.hid k1.gW) _ _ d1) d2)
def dTup (t : TDA) : TDE := fun r Q => t r fun ds => ds.length ≤ sizeLine ∧ Q (.tup ds)
def dLst (t : TDA) : TDE := fun r Q => t r fun ds => ds.length ≤ sizeLine ∧ Q (.lst ds)
theorem ped_tup {c} {t : TDA} (h : PAd X w es t) : PEd X w (.Tuple es c pos) (dTup t) := by
  refine ⟨weE (pe_tupS h.pa) ?_, fun r Q Q' q z => h.mo _ _ _ (fun d z => ⟨z.1, q _ z.2⟩) z⟩
  rintro σ H Q ⟨W, own, r, S, z⟩
  refine goA h S z fun xs vs H1 e1 k1 d1 p => ⟨by rw [d1.len]; exact p.1, (p.2.then e1).newT k1 d1⟩
theorem ped_lst {t : TDA} (h : PAd X w es t) : PEd X w (.List es pos) (dLst t) := by
  refine ⟨weE (pe_lst h.pa) ?_, fun r Q Q' q z => h.mo _ _ _ (fun d z => ⟨z.1, q _ z.2⟩) z⟩
  rintro σ H Q ⟨W, own, r, S, z⟩
  refine goA h S z fun xs vs H1 e1 k1 d1 p => ⟨by rw [d1.len]; exact p.1, fun q np => (p.2.then e1).newL k1 np d1⟩

/-! ### calls of defs -/
abbrev DSp := List Da → (Da → Prop) → Prop
def MoP (p : DSp) : Prop := ∀ ds Q Q', (∀ d, Q d → Q' d) → p ds Q → p ds Q'
def liP (K : PySem.W.Frag) (p : DSp) : Sp := fun vs H Q _ => ∃ g W ds, OkW K g W H ∧ DvAll K g (hid W H) vs ds ∧ p ds (Aft K g W H Q)
def dCall (p : DSp) (t : TDA) : TDE := fun r Q => t r fun ds => p ds Q
theorem ped_call {x : Str} {p pos : Pos} {k : Nat} {f : Addr} {fd : FuncData} {ps : List Str} {sp : DSp} {t : TDA} {e : Expr} {es : List Expr} (F : FnG X.prog X.w X.K X.mg X.base CX0 k f fd ps (liP X.K sp)) (m : MoP sp) (room : Room k X.A) (hG : X.A.guards = some [])
    (at_x : X.mg x = some (.ref f)) (kp : PySem.W.keepIn X.K (.ref f) = true) (bd : Binds X.K fd ps []) (args : PAd X w (e :: es) t) (gl : Gl X x := by rfl) (nd : (x == ("__debug__" : Str)) = false := by decide)
    (st : starEach (e :: es) X.env = (false, eval e X.env) :: starEach es X.env := by rfl) (bk : (backTo pos (starEach es X.env)).any (·.1) = false := by rfl) :
    PEd X w (.Call (.Name x p) (e :: es) [] pos) (dCall sp t) := by
  refine ⟨weE (pe_callG (E := E0) F room hG gl at_x kp bd .nil pass0 args.pa nd st bk) ?_, fun r Q Q' q h => args.mo _ _ _ (fun ds z => m _ _ _ q z) h⟩
  rintro σ H Q ⟨W, own, r, S, h⟩
  refine goA args S h fun xs vs H1 e1 k1 d1 p => ?_
  rw [List.append_nil]
  exact ⟨w.g, W, xs, k1, d1, m _ _ _ (fun d q => q.then e1) p⟩

/-! ### calls of built-ins -/
abbrev DB := List Da → (Da → Prop) → Prop
def BrB (K : PySem.W.Frag) (R : List V → Hp → VK → Prop) (D : DB) : Prop := ∀ (g : Option Addr) (W : Addr → Bool) (H : Hp) (vs : List V) (ds : List Da) (Q : VK), OkW K g W H → DvAll K g (hid W H) vs ds → D ds (Aft K g W H Q) → R vs H Q
theorem ped_callB {x : Str} {p pos : Pos} {id : String} {R : List V → Hp → VK → Prop} {D : DB} {t : TDA} {e : Expr} {es : List Expr} (hc : CallR X (.builtin id) R) (m : MoP D) (br : BrB X.K R D) (hm : X.mg x = none) (hv : bootBuiltins x = some (.builtin id)) (args : PAd X w (e :: es) t)
    (hg : Gl X x := by rfl) (hn : x ≠ "__name__" := by decide) (hdb : (x == ("__debug__" : Str)) = false := by decide) (he : starEach (e :: es) X.env = (false, eval e X.env) :: starEach es X.env := by rfl) (hpl : (backTo pos (starEach es X.env)).any (·.1) = false := by rfl) :
    PEd X w (.Call (.Name x p) (e :: es) [] pos) (dCall D t) := by
  refine ⟨weE (pe_callB hc hg hm hv args.pa hn hdb he hpl) ?_, fun r Q Q' q h => args.mo _ _ _ (fun ds z => m _ _ _ q z) h⟩
  rintro σ H Q ⟨W, own, r, S, h⟩
  exact goA args S h fun xs vs H1 e1 k1 d1 p => br _ _ _ _ _ _ k1 d1 (m _ _ _ (fun d q => q.then e1) p)
theorem ped_callTy {x : Str} {p pos : Pos} {T : String} {R : List V → Hp → VK → Prop} {D : DB} {t : TDA} {e : Expr} {es : List Expr} (hc : CallR X (.type T) R) (m : MoP D) (br : BrB X.K R D) (hm : X.mg x = none) (hv : bootBuiltins x = some (.type T)) (args : PAd X w (e :: es) t)
    (hg : Gl X x := by rfl) (hn : x ≠ "__name__" := by decide) (hdb : (x == ("__debug__" : Str)) = false := by decide) (he : starEach (e :: es) X.env = (false, eval e X.env) :: starEach es X.env := by rfl) (hpl : (backTo pos (starEach es X.env)).any (·.1) = false := by rfl) :
    PEd X w (.Call (.Name x p) (e :: es) [] pos) (dCall D t) := by
  refine ⟨weE (pe_callTy hc hg hm hv args.pa hn hdb he hpl) ?_, fun r Q Q' q h => args.mo _ _ _ (fun ds z => m _ _ _ q z) h⟩
  rintro σ H Q ⟨W, own, r, S, h⟩
  exact goA args S h fun xs vs H1 e1 k1 d1 p => br _ _ _ _ _ _ k1 d1 (m _ _ _ (fun d q => q.then e1) p)
end
end Pd
/-! Statements, loops, comprehensions on data. -/
namespace Pd
open PySem PySem.Spec PyProof.Rows L2

/-! ### statements -/
/-- from one state to a later one -/
def Grow (g : Option Addr) (W : Addr → Bool) (H : Hp) (W' : Addr → Bool) (H' : Hp) : Prop :=
  (∀ b o, g ≠ some b → W b = false → H b = some o → H' b = some o) ∧ (∀ a, H a ≠ none → H' a ≠ none) ∧ ∀ a, W' a = true → W a = true ∨ H a = none
theorem Grow.refl {g : Option Addr} {W : Addr → Bool} {H : Hp} : Grow g W H W H := ⟨fun _ _ _ _ h => h, fun _ h => h, fun _ h => .inl h⟩
theorem Grow.trans {g : Option Addr} {W W1 W2 : Addr → Bool} {H H1 H2 : Hp} (a : Grow g W H W1 H1) (b : Grow g W1 H1 W2 H2) : Grow g W H W2 H2 := by
  refine ⟨fun c o n wf h => b.1 c o n ?_ (a.1 c o n wf h), fun c h => b.2.1 c (a.2.1 c h), fun c h => ?_⟩
  · cases q : W1 c with
    | false => rfl
    | true =>
      rcases a.2.2 c q with z | z
      · rw [wf] at z; cases z
      · rw [h] at z; cases z
  · rcases b.2.2 c h with z | z
    · exact a.2.2 c z
    · refine .inr (Classical.byContradiction fun n => a.2.1 c n z)
theorem Grow.of {K : PySem.W.Frag} {g : Option Addr} {W : Addr → Bool} {H H' : Hp} (k : OkW K g W H') (e : Ext g H H') : Grow g W H W H' :=
  ⟨fun b o n _ h => e b o n h, (fun a h => by
    by_cases z : g = some a
    · obtain ⟨o, q⟩ := k.al a (k.gW a z)
      rw [q]; intro n; cases n
    · cases q : H a with
      | none => exact absurd q h
      | some o => rw [e a o z q]; intro n; cases n), fun a h => .inl h⟩
theorem Grow.data {g : Option Addr} {W W' : Addr → Bool} {H H' : Hp} (gr : Grow g W H W' H') (gW : ∀ a, g = some a → W a = true) : Sm (hid W H) (hid W' H') := fun a o q => by
  obtain ⟨q1, q2⟩ := hid_some q
  rw [hid_no]
  · exact gr.1 a o (fun z => by rw [gW a z] at q1; cases q1) q1 q2
  · cases z : W' a with
    | false => rfl
    | true =>
      rcases gr.2.2 a z with y | y
      · rw [q1] at y; cases y
      · rw [q2] at y; cases y

def endD (K : PySem.W.Frag) (w : Wd) (W : Addr → Bool) (H : Hp) (E : Ends) : EnD where
  nx := fun r' => ∀ W' own' σ' H', Grow w.g W H W' H' → Stt K w W' own' r' σ' H' → E.nx σ' H'
  rt := fun d => ∀ v H', Ext w.g w.H0 H' → OkW K w.g w.W0 H' → Dv K w.g (hid w.W0 H') v d → E.rt v H'
  bk := fun r' => ∀ W' own' σ' H', Grow w.g W H W' H' → Stt K w W' own' r' σ' H' → E.bk σ' H'
  ct := fun r' => ∀ W' own' σ' H', Grow w.g W H W' H' → Stt K w W' own' r' σ' H' → E.ct σ' H'
def liS (K : PySem.W.Frag) (w : Wd) (t : TDS) : TS := fun E σ H => ∃ W own r, Stt K w W own r σ H ∧ t (endD K w W H E) r
/-- every end that the one wants the other gives -/
structure Le (E E' : EnD) : Prop where
  nx : ∀ r, E.nx r → E'.nx r
  rt : ∀ d, E.rt d → E'.rt d
  bk : ∀ r, E.bk r → E'.bk r
  ct : ∀ r, E.ct r → E'.ct r
theorem Le.refl {E : EnD} : Le E E := ⟨fun _ h => h, fun _ h => h, fun _ h => h, fun _ h => h⟩
def MoS (t : TDS) : Prop := ∀ E E' r, Le E E' → t E r → t E' r
structure PSd (X : Cx) (w : Wd) (st : Stmt) (t : TDS) : Prop where
  ps : PS X st (liS X.K w t)
  mo : MoS t
structure PSsd (X : Cx) (w : Wd) (st : List Stmt) (t : TDS) : Prop where
  ps : PSs X st (liS X.K w t)
  mo : MoS t
theorem endD_grow {K : PySem.W.Frag} {w : Wd} {W W1 : Addr → Bool} {H H1 : Hp} {E : Ends} (g : Grow w.g W H W1 H1) : Le (endD K w W H E) (endD K w W1 H1 E) :=
  ⟨fun _ h W' o' σ' H' g' S => h W' o' σ' H' (g.trans g') S, fun _ h => h, fun _ h W' o' σ' H' g' S => h W' o' σ' H' (g.trans g') S, fun _ h W' o' σ' H' g' S => h W' o' σ' H' (g.trans g') S⟩

section
variable {X : Cx} {w : Wd} {e a b : Expr} {st : Stmt} {sts rest : List Stmt} {pos : Pos} {t u : TDS} {te : TDE} {tt : TDT}
theorem weS {t t' : TS} (h : PS X st t) (le : ∀ D σ H, t' D σ H → t D σ H) : PS X st t' := ⟨fun pins s σ H D I q => h.run pins s σ H D I (le _ _ _ q)⟩
theorem weSs {t t' : TS} (h : PSs X sts t) (le : ∀ D σ H, t' D σ H → t D σ H) : PSs X sts t' := ⟨fun pins s σ H D I q => h.run pins s σ H D I (le _ _ _ q)⟩
def dSeq (t u : TDS) : TDS := fun E r => t { E with nx := u E } r
theorem psd_cons (h1 : PSd X w st t) (h2 : PSsd X w rest u) : PSsd X w (st :: rest) (dSeq t u) := by
  refine ⟨weSs (pss_cons h1.ps h2.ps) ?_, fun E E' r l h => h1.mo { E with nx := u E } { E' with nx := u E' } r ⟨fun r' => h2.mo E E' r' l, l.rt, l.bk, l.ct⟩ h⟩
  rintro D σ H ⟨W, own, r, S, h⟩
  refine ⟨W, own, r, S, h1.mo { endD X.K w W H D with nx := u (endD X.K w W H D) } (endD X.K w W H { D with nx := liS X.K w u D }) r ⟨fun r' z W' o' σ' H' g' S' => ?_, fun _ z => z, fun _ z => z, fun _ z => z⟩ h⟩
  exact ⟨W', o', r', S', h2.mo _ _ _ (endD_grow g') z⟩
theorem psd_one (h1 : PSd X w st t) : PSsd X w [st] t := ⟨pss_one h1.ps, h1.mo⟩
def dNext : TDS := fun E r => E.nx r
theorem psd_nil : PSsd X w [] dNext := by
  refine ⟨weSs pss_nil ?_, fun E E' r l h => l.nx r h⟩
  rintro D σ H ⟨W, own, r, S, h⟩
  exact h W own σ H .refl S
theorem psd_pass : PSd X w (.Pass pos) dNext := by
  refine ⟨weS ps_pass ?_, fun E E' r l h => l.nx r h⟩
  rintro D σ H ⟨W, own, r, S, h⟩
  exact h W own σ H .refl S
theorem psd_break : PSd X w (.Break pos) (fun E r => E.bk r) := by
  refine ⟨weS ps_break ?_, fun E E' r l h => l.bk r h⟩
  rintro D σ H ⟨W, own, r, S, h⟩
  exact h W own σ H .refl S
theorem psd_continue : PSd X w (.Continue pos) (fun E r => E.ct r) := by
  refine ⟨weS ps_continue ?_, fun E E' r l h => l.ct r h⟩
  rintro D σ H ⟨W, own, r, S, h⟩
  exact h W own σ H .refl S
def dDrop (t : TDE) : TDS := fun E r => t r fun _ => E.nx r
theorem psd_expr (he : PEd X w e te) (hs : swapsWith e none pos.line X.env = pure false := by rfl) : PSd X w (.Expr e pos) (dDrop te) := by
  refine ⟨weS (ps_expr he.pe hs) ?_, fun E E' r l h => he.mo _ _ _ (fun d => l.nx r) h⟩
  rintro D σ H ⟨W, own, r, S, h⟩
  exact go1 he S h fun x v H1 e1 k1 d1 p => p W own σ H1 (.of k1 e1) (S.ext e1 k1)
def dRet (t : TDE) : TDS := fun E r => t r E.rt
theorem ret_ok {K : PySem.W.Frag} {W : Addr → Bool} {own : Ow} {r : En} {σ : L2.St} {H : Hp} {E : Ends} {d : Da} {v : V} (S : Stt K w W own r σ H) (h : (endD K w W H E).rt d) (H1 : Hp) (e1 : Ext w.g H H1) (k1 : OkW K w.g W H1) (d1 : Dv K w.g (hid W H1) v d) : E.rt v H1 := by
  have z := h v H1 (S.base.trans e1)
  refine z ⟨fun c hc => ?_, S.g0, fun c hc => k1.al c (S.w0 c hc)⟩ (Dv.mono (hid_le S.w0) _ _ d1)
  obtain ⟨x, y, n, c', cs, h1, h2⟩ := k1.bag c hc
  exact ⟨x, y, n, c', cs, h1, hid_le S.w0 _ _ h2⟩
theorem psd_ret (he : PEd X w e te) : PSd X w (.Return (some e) pos) (dRet te) := by
  refine ⟨weS (ps_ret he.pe) ?_, fun E E' r l h => he.mo _ _ _ l.rt h⟩
  rintro D σ H ⟨W, own, r, S, h⟩
  exact go1 he S h fun x v H1 e1 k1 d1 p => ret_ok S p H1 e1 k1 d1
def dRetN : TDS := fun E _ => E.rt .non
theorem psd_retN : PSd X w (.Return none pos) dRetN := by
  refine ⟨weS ps_retN ?_, fun E E' r l h => l.rt _ h⟩
  rintro D σ H ⟨W, own, r, S, h⟩
  exact ret_ok S h H Ext.refl S.ok .non
def dIf (c : TDT) (t u : TDS) : TDS := fun E r => c r fun b => if b = true then t E r else u E r
theorem psd_if {c : Expr} {p q : List Stmt} (hc : PTd X w c tt) (ha : PSsd X w p t) (hb : PSsd X w q u) : PSd X w (.If c p q pos) (dIf tt t u) := by
  refine ⟨weS (ps_if hc.pt ha.ps hb.ps) ?_, fun E E' r l h => hc.mo _ _ _ (fun b => ite_mo (ha.mo E E' r l) (hb.mo E E' r l)) h⟩
  rintro D σ H ⟨W, own, r, S, h⟩
  refine ⟨W, own, r, S, hc.mo _ _ _ (fun b z H1 e1 k1 => ?_) h⟩
  have l : Le (endD X.K w W H D) (endD X.K w W H1 D) := endD_grow (.of k1 e1)
  exact ite_mo (fun z => ⟨W, own, r, S.ext e1 k1, ha.mo _ _ _ l z⟩) (fun z => ⟨W, own, r, S.ext e1 k1, hb.mo _ _ _ l z⟩) z

/-! ### targets -/
abbrev TDG := Da → En → (En → Prop) → Prop
theorem wipe_set {σ : L2.St} {i : Nat} {x : Option V} : ∀ {vs : List Nat}, i ∈ vs → L2.wipe (σ.set i x) vs = L2.wipe σ vs := by
  intro vs
  induction vs with
  | nil => intro h; cases h
  | cons v vs ih =>
    intro h
    show (L2.wipe (σ.set i x) vs).set v none = (L2.wipe σ vs).set v none
    by_cases q : i ∈ vs
    · rw [ih q]
    · have e : i = v := by rcases List.mem_cons.mp h with z | z; exact z; exact absurd z q
      subst e
      have aux : ∀ (us : List Nat) (σ : L2.St), i ∉ us → L2.wipe (σ.set i x) us = (L2.wipe σ us).set i x := by
        intro us
        induction us with
        | nil => intro σ _; rfl
        | cons z zs ih2 =>
          intro σ hz
          show (L2.wipe (σ.set i x) zs).set z none = ((L2.wipe σ zs).set z none).set i x
          rw [ih2 σ (fun y => hz (List.mem_cons_of_mem _ y)), List.set_comm]
          exact fun y => hz (by rw [y]; exact List.mem_cons_self)
      rw [aux vs σ q, List.set_set]
theorem wipe_idem (σ : L2.St) (vs : List Nat) : L2.wipe (L2.wipe σ vs) vs = L2.wipe σ vs := by
  have aux : ∀ (us vs : List Nat) (σ : L2.St), (∀ i ∈ us, i ∈ vs) → L2.wipe (L2.wipe σ us) vs = L2.wipe σ vs := by
    intro us
    induction us with
    | nil => intro vs σ _; rfl
    | cons u us ih =>
      intro vs σ h
      show L2.wipe ((L2.wipe σ us).set u none) vs = _
      rw [wipe_set (h u List.mem_cons_self)]
      exact ih vs σ fun i hi => h i (List.mem_cons_of_mem _ hi)
  exact aux vs vs σ fun _ h => h
/-- what a target does with a datum; vs: the slots it may set -/
structure GDt (K : PySem.W.Frag) (g : TG) (gd : TDG) (vs : List Nat) : Prop where
  run : ∀ (w : Wd) (W : Addr → Bool) (own : Ow) (r : En) (σ : L2.St) (H : Hp) (v : V) (d : Da) (Q : En → Prop), Stt K w W own r σ H → Dv K w.g (hid W H) v d → gd d r Q →
    g v σ H fun σ' H' => H' = H ∧ (∀ us, (∀ i ∈ vs, i ∈ us) → L2.wipe σ' us = L2.wipe σ us) ∧ ∃ own' r', Stt K w W own' r' σ' H ∧ Q r'
  mo : ∀ d r Q Q', (∀ r, Q r → Q' r) → gd d r Q → gd d r Q'
def dgName (i : Nat) : TDG := fun d r Q => Q (r.set i (.dat d))
theorem gd_name {K : PySem.W.Frag} (i : Nat) : GDt K (gName i) (dgName i) [i] := by
  refine ⟨fun w W own r σ H v d Q S dv h => ?_, fun d r Q Q' q h => q _ h⟩
  obtain ⟨own', S'⟩ := S.set (i := i) dv
  exact ⟨rfl, fun us hu => wipe_set (hu i List.mem_cons_self), own', _, S', h⟩
/-- a, b = a pair -/
def itemsOf : Da → Option (List Da)
  | .tup xs => some xs
  | .tpw xs => some xs
  | _ => none
def dgTup2 (i j : Nat) : TDG := fun d r Q => ∃ x y, itemsOf d = some [x, y] ∧ Q ((r.set i (.dat x)).set j (.dat y))
theorem items_sq {K : PySem.W.Frag} {g : Option Addr} {W : Addr → Bool} {H : Hp} {v : V} {d : Da} {ds : List Da} (h : Dv K g (hid W H) v d) (e : itemsOf d = some ds) : ∃ a xs, v = .ref a ∧ SqT K H a xs ∧ DvAll K g (hid W H) xs ds := by
  unfold itemsOf at e
  split at e
  · cases e
    cases h with
    | tup h1 h2 => exact ⟨_, _, rfl, sq_hid h1.sq, h2⟩
  · cases e
    cases h with
    | tpw h1 h2 => exact ⟨_, _, rfl, sq_hid h1, h2⟩
  · cases e
theorem gd_tup2 {K : PySem.W.Frag} (i j : Nat) : GDt K (gTup K 2 (gCons (gName i) (gCons (gName j) gNil))) (dgTup2 i j) [i, j] := by
  refine ⟨fun w W own r σ H v d Q S dv h => ?_, fun d r Q Q' q ⟨x, y, e, z⟩ => ⟨x, y, e, q _ z⟩⟩
  obtain ⟨x, y, e, h⟩ := h
  obtain ⟨c, xs, rfl, hq, hd⟩ := items_sq dv e
  cases hd with
  | cons d1 t1 =>
    cases t1 with
    | cons d2 t2 =>
      cases t2
      obtain ⟨o1, S1⟩ := S.set (i := i) d1
      obtain ⟨o2, S2⟩ := S1.set (i := j) d2
      refine ⟨c, _, rfl, hq, rfl, _, _, rfl, _, _, rfl, rfl, rfl, fun us hu => ?_, o2, _, S2, h⟩
      rw [wipe_set (hu j (by simp)), wipe_set (hu i (by simp))]
def dgTup3 (i j k : Nat) : TDG := fun d r Q => ∃ x y z, itemsOf d = some [x, y, z] ∧ Q (((r.set i (.dat x)).set j (.dat y)).set k (.dat z))
theorem gd_tup3 {K : PySem.W.Frag} (i j k : Nat) : GDt K (gTup K 3 (gCons (gName i) (gCons (gName j) (gCons (gName k) gNil)))) (dgTup3 i j k) [i, j, k] := by
  refine ⟨fun w W own r σ H v d Q S dv h => ?_, fun d r Q Q' q ⟨x, y, u, e, z⟩ => ⟨x, y, u, e, q _ z⟩⟩
  obtain ⟨x, y, u, e, h⟩ := h
  obtain ⟨c, xs, rfl, hq, hd⟩ := items_sq dv e
  cases hd with
  | cons d1 t1 =>
    cases t1 with
    | cons d2 t2 =>
      cases t2 with
      | cons d3 t3 =>
        cases t3
        obtain ⟨o1, S1⟩ := S.set (i := i) d1
        obtain ⟨o2, S2⟩ := S1.set (i := j) d2
        obtain ⟨o3, S3⟩ := S2.set (i := k) d3
        refine ⟨c, _, rfl, hq, rfl, _, _, rfl, _, _, rfl, _, _, rfl, rfl, rfl, fun us hu => ?_, o3, _, S3, h⟩
        rw [wipe_set (hu k (by simp)), wipe_set (hu j (by simp)), wipe_set (hu i (by simp))]
/-- name = e -/
def dSet (te : TDE) (i : Nat) : TDS := fun E r => te r fun d => E.nx (r.set i (.dat d))
theorem psd_set {i : Nat} {x : Str} {pos' : Pos} (he : PEd X w e te) (hN : X.N.Nodup) (hi : X.N[i]? = some x := by rfl) (hx : Loc X.env.scope x := by first | exact .inl rfl | exact .inr rfl) (hs : swapsWith e (some (.Name x pos')) pos.line X.env = pure false := by rfl)
    (hf : X.fn x = true ∨ X.env.scope.names.lookup x = some .local := by first | exact .inl rfl | exact .inr rfl) : PSd X w (.Assign [.Name x pos'] e pos) (dSet te i) := by
  refine ⟨weS (ps_set hN hi hx he.pe hs hf) ?_, fun E E' r l h => he.mo _ _ _ (fun d => l.nx _) h⟩
  rintro D σ H ⟨W, own, r, S, h⟩
  refine go1 he S h fun y v H1 e1 k1 d1 p => ?_
  obtain ⟨own', S'⟩ := (S.ext e1 k1).set (i := i) d1
  exact p W own' _ H1 (.of k1 e1) S'
/-- target = e -/
def dAsg (te : TDE) (gd : TDG) : TDS := fun E r => te r fun d => gd d r E.nx
theorem psd_asg {tg : Expr} {g : TG} {gd : TDG} {vs : List Nat} (he : PEd X w e te) (hg : PG X tg g) (G : GDt X.K g gd vs) (gmo : ∀ v σ H Q Q', (∀ a b, Q a b → Q' a b) → g v σ H Q → g v σ H Q') (hs : swapsWithSole [tg] e pos.line X.env = pure false := by rfl) (hw : swappedStores [tg] e X.env = pure none := by rfl)
    (h1 : (assignEach [tg] X.env).map (·.2) = [assign tg X.env] := by rfl) : PSd X w (.Assign [tg] e pos) (dAsg te gd) := by
  refine ⟨weS (ps_asg he.pe hg hs hw h1) ?_, fun E E' r l h => he.mo _ _ _ (fun d => G.mo _ _ _ _ l.nx) h⟩
  rintro D σ H ⟨W, own, r, S, h⟩
  refine go1 he S h fun y v H1 e1 k1 d1 p => ?_
  refine gmo _ _ _ _ _ ?_ (G.run w W own r σ H1 v y _ (S.ext e1 k1) d1 p)
  rintro σ' H' ⟨rfl, _, own', r', S', q⟩
  exact q W own' σ' _ (.of k1 e1) S'
theorem gTup_mo {K : PySem.W.Frag} {n : Nat} {t : TGs} (m : ∀ vs σ H Q Q', (∀ a b, Q a b → Q' a b) → t vs σ H Q → t vs σ H Q') : ∀ v σ H Q Q', (∀ a b, Q a b → Q' a b) → gTup K n t v σ H Q → gTup K n t v σ H Q' :=
  fun v σ H Q Q' q ⟨a, xs, h1, h2, h3, h4⟩ => ⟨a, xs, h1, h2, h3, m _ _ _ _ _ q h4⟩
theorem gCons_mo {t : TG} {u : TGs} (m1 : ∀ v σ H Q Q', (∀ a b, Q a b → Q' a b) → t v σ H Q → t v σ H Q') (m2 : ∀ vs σ H Q Q', (∀ a b, Q a b → Q' a b) → u vs σ H Q → u vs σ H Q') :
    ∀ vs σ H Q Q', (∀ a b, Q a b → Q' a b) → gCons t u vs σ H Q → gCons t u vs σ H Q' := fun vs σ H Q Q' q ⟨v, rr, h1, h2⟩ => ⟨v, rr, h1, m1 _ _ _ _ _ (fun _ _ => m2 _ _ _ _ _ q) h2⟩
theorem gNil_mo : ∀ vs σ H Q Q', (∀ a b, Q a b → Q' a b) → gNil vs σ H Q → gNil vs σ H Q' := fun vs σ H Q Q' q ⟨h1, h2⟩ => ⟨h1, q _ _ h2⟩
theorem gName_mo (i : Nat) : ∀ v σ H Q Q', (∀ a b, Q a b → Q' a b) → gName i v σ H Q → gName i v σ H Q' := fun v σ H Q Q' q h => q _ _ h
/-- a, b = x, y (both sides written) -/
def dPar (i j : Nat) (ta tb : TDE) : TDS := fun E r => ta r fun x => tb r fun y => E.nx ((r.set i (.dat x)).set j (.dat y))
theorem psd_par {i j : Nat} {x y : Str} {px py pt : Pos} {kt k2 pt2} {ta tb : TDE} (ha : PEd X w a ta) (hb : PEd X w b tb) (hN : X.N.Nodup) (hc : X.calm = true := by rfl) (hi : X.N[i]? = some x := by rfl) (hj : X.N[j]? = some y := by rfl) (hij : i ≠ j := by decide)
    (hx : X.env.scope.names.lookup x = some .local := by rfl) (hy : X.env.scope.names.lookup y = some .local := by rfl) (hs1 : starEach (a :: [b]) X.env = (false, eval a X.env) :: starEach [b] X.env := by rfl) (hs2 : starEach (b :: []) X.env = (false, eval b X.env) :: starEach [] X.env := by rfl)
    (hw : swappedStores [.Tuple [.Name x px, .Name y py] kt pt] (.Tuple [a, b] k2 pt2) X.env = pure (some [x, y]) := by rfl)
    (hs : swapsWithSole [.Tuple [.Name x px, .Name y py] kt pt] (.Tuple [a, b] k2 pt2) pos.line X.env = pure false := by rfl) :
    PSd X w (.Assign [.Tuple [.Name x px, .Name y py] kt pt] (.Tuple [a, b] k2 pt2) pos) (dPar i j ta tb) := by
  refine ⟨weS (ps_par hc hN hi hj hij hx hy (pa_cons ha.pe (pa_cons hb.pe pa_nil hs2) hs1) hw hs) ?_, fun E E' r l h => ha.mo _ _ _ (fun d => hb.mo _ _ _ (fun d => l.nx _)) h⟩
  rintro D σ H ⟨W, own, r, S, h⟩
  refine go1 ha S h fun d v H1 e1 k1 d1 p => go1 hb (S.ext e1 k1) p fun d' v' H2 e2 k2 d2 q => ?_
  obtain ⟨o1, S1⟩ := ((S.ext e1 k1).ext e2 k2).set (i := i) (Dv.mono (e2.hid k1.gW) _ _ d1)
  obtain ⟨o2, S2⟩ := S1.set (i := j) d2
  exact ⟨v, v', rfl, q W o2 _ H2 (.of k2 (e1.trans e2)) S2⟩
/-- name op= e -/
def dAug (i : Nat) (te : TDE) (D : DD) : TDS := fun E r => ∃ x, r[i]? = some (.dat x) ∧ te r fun y => D x y fun z => E.nx (r.set i (.dat z))
theorem psd_aug {i : Nat} {x : Str} {op : Operator} {pos' : Pos} {ti : TIp} {D : DD} (he : PEd X w e te) (ho : PIp X op ti) (m : Mo2 D) (br : Br2 X.K ti D) (hN : X.N.Nodup) (hi : X.N[i]? = some x := by rfl) (hx : Loc X.env.scope x := by first | exact .inl rfl | exact .inr rfl)
    (hf : X.fn x = true ∨ X.env.scope.names.lookup x = some .local := by first | exact .inl rfl | exact .inr rfl) : PSd X w (.AugAssign (.Name x pos') op e pos) (dAug i te D) := by
  refine ⟨weS (ps_aug hN hi hx he.pe ho hf) ?_, fun E E' r l ⟨d, h1, h⟩ => ⟨d, h1, he.mo _ _ _ (fun y => m _ _ _ _ (fun z => l.nx _)) h⟩⟩
  rintro E σ H ⟨W, own, r, S, d, h1, h⟩
  obtain ⟨v, ev, dv⟩ := S.dat h1
  refine ⟨v, ev, go1 he S h fun y u H1 e1 k1 d1 p => br _ _ _ _ _ _ _ _ k1 (Dv.mono (e1.hid S.ok.gW) _ _ dv) d1 (m _ _ _ _ ?_ p)⟩
  intro z q v' H' e' k' d'
  obtain ⟨own', S'⟩ := ((S.ext e1 k1).ext e' k').set (i := i) d'
  exact q W own' _ H' (.of k' (e1.trans e')) S'
def subN : DD := intD (fun _ _ => True) fun i j => i - j
def addN : DD := intD (fun _ _ => True) fun i j => i + j
theorem ipI_br {f : Int → Int → Int} : Br2 X.K (ipI f) (intD (fun _ _ => True) f) := by
  intro g W H v u x y Q k dx dy h
  unfold intD at h
  split at h
  · cases dx; cases dy
    exact ⟨_, _, rfl, rfl, h.2.now k (.int _)⟩
  · exact h.elim
theorem psd_augAdd {i : Nat} {x : Str} {pos' : Pos} (he : PEd X w e te) (hN : X.N.Nodup) (hi : X.N[i]? = some x := by rfl) (hx : Loc X.env.scope x := by first | exact .inl rfl | exact .inr rfl)
    (hf : X.fn x = true ∨ X.env.scope.names.lookup x = some .local := by first | exact .inl rfl | exact .inr rfl) : PSd X w (.AugAssign (.Name x pos') .Add e pos) (dAug i te addN) := psd_aug he ip_add intD_mo ipI_br hN hi hx hf
end
end Pd
/-! What is walked; for; comprehensions; a def by its data promise. -/
namespace Pd
open PySem PySem.Spec PyProof.Rows L2

/-! ### what is walked -/
abbrev TDI := En → (List Da → Prop) → Prop
/-- J goes over the data ds (from the heap H1 on, W hidden there) -/
def Wlk (K : PySem.W.Frag) (g : Option Addr) (W : Addr → Bool) (H1 : Hp) (J : It) (ds : List Da) : Prop :=
  ∀ i H', Sm (hid W H1) H' → (i < ds.length → J.go i H') ∧ (ds.length ≤ i → J.stop i H') ∧
    ∀ x H'', i < ds.length → J.yld i H' x H'' → Sm H' H'' ∧ ∃ d, ds[i]? = some d ∧ ∀ Z : Hp, Sm (hid W H1) Z → (∀ b o, H' b = none → H'' b = some o → Z b = some o) → Dv K g Z x d
def liI (K : PySem.W.Frag) (w : Wd) (t : TDI) : TI := fun σ H R => ∃ W own r, Stt K w W own r σ H ∧ t r fun ds => ∀ J H1, Ext w.g H H1 → OkW K w.g W H1 → Wlk K w.g W H1 J ds → R J H1
structure PId (X : Cx) (w : Wd) (tg e : Expr) (t : TDI) : Prop where
  pi : PI X tg e (liI X.K w t)
  mo : ∀ r Q Q', (∀ ds, Q ds → Q' ds) → t r Q → t r Q'
section
variable {X : Cx} {w : Wd} {e tg : Expr} {pos : Pos} {te : TDE}
theorem weI {t t' : TI} (h : PI X tg e t) (le : ∀ σ H R, t' σ H R → t σ H R) : PI X tg e t' := ⟨fun pins s σ H R I q => h.run pins s σ H R I (le _ _ _ q)⟩
theorem wlk_list {K : PySem.W.Frag} {g : Option Addr} {W : Addr → Bool} {H : Hp} {a : Addr} {xs : List V} {ds : List Da} (h : hid W H a = some (.lst xs)) (dv : DvAll K g (hid W H) xs ds) : Wlk K g W H (Itl K a) ds := by
  intro i H' s
  have q : SqL K H' a xs := SqL.of (s _ _ h)
  refine ⟨fun hi => ?_, fun hi => ⟨xs, q, by rw [dv.len]; exact hi⟩, fun x H'' _ y => ?_⟩
  · have hx : i < xs.length := by rw [dv.len]; exact hi
    exact ⟨xs, xs[i], q, List.getElem?_eq_getElem hx⟩
  · obtain ⟨e, y⟩ := y
    subst e
    refine ⟨fun _ _ h => h, ?_⟩
    obtain ⟨d, h1, h2⟩ := dv.ta (y xs q)
    exact ⟨d, h1, fun Z z _ => Dv.mono z _ _ h2⟩
theorem wlk_tup {K : PySem.W.Frag} {g : Option Addr} {W : Addr → Bool} {H : Hp} {a : Addr} {xs : List V} {ds : List Da} (h : SqT K (hid W H) a xs) (dv : DvAll K g (hid W H) xs ds) : Wlk K g W H (Itt K a) ds := by
  intro i H' s
  have q : SqT K H' a xs := sqt_mono s h
  refine ⟨fun hi => ?_, fun hi => ⟨xs, q, by rw [dv.len]; exact hi⟩, fun x H'' _ y => ?_⟩
  · have hx : i < xs.length := by rw [dv.len]; exact hi
    exact ⟨xs, xs[i], q, List.getElem?_eq_getElem hx⟩
  · obtain ⟨e, y⟩ := y
    subst e
    refine ⟨fun _ _ h => h, ?_⟩
    obtain ⟨d, h1, h2⟩ := dv.ta (y xs q)
    exact ⟨d, h1, fun Z z _ => Dv.mono z _ _ h2⟩
/-- for x in a list -/
def dItL (t : TDE) : TDI := fun r Q => t r fun d => ∃ ds, d = .lst ds ∧ Q ds
theorem pid_list (h : PEd X w e te) : PId X w tg e (dItL te) := by
  refine ⟨weI (pi_list h.pe) ?_, fun r Q Q' q z => h.mo _ _ _ (fun d ⟨ds, e, z⟩ => ⟨ds, e, q _ z⟩) z⟩
  rintro σ H R ⟨W, own, r, S, z⟩
  refine go1 h S z fun d v H1 e1 k1 d1 p => ?_
  obtain ⟨ds, rfl, p⟩ := p
  cases d1 with
  | lst a1 a2 => exact ⟨_, rfl, ⟨_, SqL.of (hid_some a1).2⟩, p _ H1 e1 k1 (wlk_list a1 a2)⟩
/-- for x in a tuple -/
def dItT (t : TDE) : TDI := fun r Q => t r fun d => ∃ ds, itemsOf d = some ds ∧ Q ds
theorem pid_tup (h : PEd X w e te) : PId X w tg e (dItT te) := by
  refine ⟨weI (pi_tup h.pe) ?_, fun r Q Q' q z => h.mo _ _ _ (fun d ⟨ds, e, z⟩ => ⟨ds, e, q _ z⟩) z⟩
  rintro σ H R ⟨W, own, r, S, z⟩
  refine go1 h S z fun d v H1 e1 k1 d1 p => ?_
  obtain ⟨ds, ed, p⟩ := p
  have hid' : ∀ {ds}, itemsOf d = some ds → ∃ a xs, v = .ref a ∧ SqT X.K (hid W H1) a xs ∧ DvAll X.K w.g (hid W H1) xs ds := by
    intro ds ed
    unfold itemsOf at ed
    split at ed
    · cases ed
      cases d1 with
      | tup h1 h2 => exact ⟨_, _, rfl, h1.sq, h2⟩
    · cases ed
      cases d1 with
      | tpw h1 h2 => exact ⟨_, _, rfl, h1, h2⟩
    · cases ed
  obtain ⟨a, xs, rfl, h1, h2⟩ := hid' ed
  exact ⟨a, rfl, ⟨xs, sq_hid h1⟩, p _ H1 e1 k1 (wlk_tup h1 h2)⟩
/-- for x in range(n) -/
def rngD (n : Nat) : List Da := (List.range n).map fun i => .int (i : Nat)
theorem rngD_at {n i : Nat} (h : i < n) : (rngD n)[i]? = some (.int (i : Nat)) := by
  unfold rngD
  rw [List.getElem?_map, List.getElem?_range h]
  rfl
theorem rngD_len (n : Nat) : (rngD n).length = n := by unfold rngD; rw [List.length_map, List.length_range]
theorem wlk_rng {K : PySem.W.Frag} {g : Option Addr} {W : Addr → Bool} {H : Hp} {n : Nat} : Wlk K g W H (Itr 0 n) (rngD n) := by
  intro i H' s
  rw [rngD_len]
  refine ⟨fun h => h, fun h => h, fun x H'' hi y => ?_⟩
  obtain ⟨e, y⟩ := y
  subst e y
  refine ⟨fun _ _ h => h, _, rngD_at hi, fun Z _ _ => ?_⟩
  rw [Int.zero_add]
  exact .int _
def dItR (t : TDE) : TDI := fun r Q => t r fun d => ∃ n : Int, d = .int n ∧ -(2 ^ 62) ≤ n ∧ n < 2 ^ 62 ∧ Q (rngD n.toNat)
theorem pid_range {p : Pos} (hm : X.mg "range" = none) (h : PEd X w e te) (hg : Gl X "range" := by rfl) (h1 : starEach (e :: []) X.env = (false, eval e X.env) :: starEach [] X.env := by rfl) (hs : starEach [e] X.env = [(false, eval e X.env)] := by rfl) : PId X w tg (.Call (.Name "range" p) [e] [] pos) (dItR te) := by
  refine ⟨weI (pi_range1 hg hm (pa_cons h.pe pa_nil h1) hs) ?_, fun r Q Q' q z => h.mo _ _ _ (fun d ⟨n, e, a, b, z⟩ => ⟨n, e, a, b, q _ z⟩) z⟩
  rintro σ H R ⟨W, own, r, S, z⟩
  refine go1 h S z fun d v H1 e1 k1 d1 p => ?_
  obtain ⟨n, rfl, a, b, p⟩ := p
  cases d1
  exact ⟨n, rfl, a, b, p _ H1 e1 k1 wlk_rng⟩
/-- for c in a text -/
def chD (x : Str) : List Da := x.cps.toList.map fun c => .str ⟨#[c]⟩
def dItS (t : TDE) : TDI := fun r Q => t r fun d => ∃ x, d = .str x ∧ Q (chD x)
theorem pid_str (h : PEd X w e te) : PId X w tg e (dItS te) := by
  refine ⟨weI (pi_str h.pe) ?_, fun r Q Q' q z => h.mo _ _ _ (fun d ⟨n, e, z⟩ => ⟨n, e, q _ z⟩) z⟩
  rintro σ H R ⟨W, own, r, S, z⟩
  refine go1 h S z fun d v H1 e1 k1 d1 p => ?_
  obtain ⟨x, rfl, p⟩ := p
  cases d1
  refine ⟨x, rfl, p _ H1 e1 k1 ?_⟩
  intro i H' s
  have hl : (chD x).length = x.cps.size := by unfold chD; rw [List.length_map, Array.length_toList]
  rw [hl]
  refine ⟨fun h => h, fun h => h, fun v H'' hi y => ?_⟩
  obtain ⟨e, c, hc, rfl⟩ := y
  subst e
  refine ⟨fun _ _ h => h, .str ⟨#[c]⟩, ?_, fun Z _ _ => .str _⟩
  unfold chD
  rw [List.getElem?_map, Array.getElem?_toList, hc]
  rfl
/-- for i, x in enumerate(a list) -/
def enumD (ds : List Da) : List Da := ds.zipIdx.map fun p => .tpw [.int (p.2 : Nat), p.1]
theorem enumD_at {ds : List Da} {i : Nat} {d : Da} (h : ds[i]? = some d) : (enumD ds)[i]? = some (.tpw [.int (i : Nat), d]) := by
  unfold enumD
  rw [List.getElem?_map, List.getElem?_zipIdx, h]
  show some _ = _
  rw [Nat.zero_add]
theorem enumD_len (ds : List Da) : (enumD ds).length = ds.length := by unfold enumD; rw [List.length_map, List.length_zipIdx]
def dItE (t : TDE) : TDI := fun r Q => t r fun d => ∃ ds, d = .lst ds ∧ Q (enumD ds)
theorem pid_enum {p tpos : Pos} {elts : List Expr} {kk : Nat} (hm : X.mg "enumerate" = none) (h : PEd X w e te) (hg : Gl X "enumerate" := by rfl) (h1 : starEach (e :: []) X.env = (false, eval e X.env) :: starEach [] X.env := by rfl) (hs : starEach [e] X.env = [(false, eval e X.env)] := by rfl) :
    PId X w (.Tuple elts kk tpos) (.Call (.Name "enumerate" p) [e] [] pos) (dItE te) := by
  refine ⟨weI (pi_enum hg hm (pa_cons h.pe pa_nil h1) hs) ?_, fun r Q Q' q z => h.mo _ _ _ (fun d ⟨n, e, z⟩ => ⟨n, e, q _ z⟩) z⟩
  rintro σ H R ⟨W, own, r, S, z⟩
  refine go1 h S z fun d v H1 e1 k1 d1 p => ?_
  obtain ⟨ds, rfl, p⟩ := p
  cases d1 with
  | @lst a xs _ a1 a2 =>
    refine ⟨a, xs, rfl, SqL.of (hid_some a1).2, p _ H1 e1 k1 ?_⟩
    intro i H' s
    have q : SqL X.K H' a xs := SqL.of (s _ _ a1)
    rw [enumD_len]
    refine ⟨fun hi => ?_, fun hi => ⟨xs, q, by rw [a2.len]; exact hi⟩, fun v H'' hi y => ?_⟩
    · have hx : i < xs.length := by rw [a2.len]; exact hi
      exact ⟨xs, xs[i], q, List.getElem?_eq_getElem hx⟩
    · obtain ⟨T, x, rfl, nT, rfl, fx⟩ := y
      obtain ⟨d, h1, h2⟩ := a2.ta (fx xs q)
      refine ⟨sm_upd nT, _, enumD_at h1, fun Z z1 z2 => ?_⟩
      exact .tpw (.inl (.inl (z2 T _ nT upd_same))) (.cons (.int _) (.cons (Dv.mono z1 _ _ h2) .nil))
/-- for a, b in zip(two tuples or two lists) -/
def zipD (xs ys : List Da) : List Da := List.zipWith (fun x y => .tpw [x, y]) xs ys
theorem zipD_at {xs ys : List Da} {i : Nat} {x y : Da} (h1 : xs[i]? = some x) (h2 : ys[i]? = some y) : (zipD xs ys)[i]? = some (.tpw [x, y]) := by
  unfold zipD
  rw [List.getElem?_zipWith, h1, h2]
theorem zipD_len (xs ys : List Da) : (zipD xs ys).length = min xs.length ys.length := by unfold zipD; rw [List.length_zipWith]
def dItZ (t u : TDE) : TDI := fun r Q => t r fun d => u r fun d' => (∃ xs ys, d = .lst xs ∧ d' = .lst ys ∧ Q (zipD xs ys)) ∨ ∃ xs ys, d = .tup xs ∧ d' = .tup ys ∧ Q (zipD xs ys)
theorem pid_zip {p tpos : Pos} {elts : List Expr} {kk : Nat} {e2 : Expr} {te2 : TDE} (hm : X.mg "zip" = none) (h : PEd X w e te) (h' : PEd X w e2 te2) (hg : Gl X "zip" := by rfl) (h1 : starEach (e :: [e2]) X.env = (false, eval e X.env) :: starEach [e2] X.env := by rfl) (h2 : starEach (e2 :: []) X.env = (false, eval e2 X.env) :: starEach [] X.env := by rfl)
    (hs : starEach [e, e2] X.env = (false, eval e X.env) :: starEach [e2] X.env := by rfl) (hpl : (backTo pos (starEach [e2] X.env)).any (·.1) = false := by rfl) :
    PId X w (.Tuple elts kk tpos) (.Call (.Name "zip" p) [e, e2] [] pos) (dItZ te te2) := by
  refine ⟨weI (RZ.pi_zipA hg hm (pa_cons h.pe (pa_cons h'.pe pa_nil h2) h1) hs hpl) ?_, fun r Q Q' q z => h.mo _ _ _ (fun d z => h'.mo _ _ _ (fun d' z => ?_) z) z⟩
  · rintro σ H R ⟨W, own, r, S, z⟩
    refine go1 h S z fun d v H1 e1 k1 d1 p => go1 h' (S.ext e1 k1) p fun d' v' H2 e2' k2 d2 q => ?_
    have d1' := Dv.mono (e2'.hid k1.gW) _ _ d1
    rcases q with ⟨xs, ys, rfl, rfl, q⟩ | ⟨xs, ys, rfl, rfl, q⟩
    · cases d1' with
      | @lst a us _ a1 a2 =>
        cases d2 with
        | @lst b vs _ b1 b2 =>
          refine ⟨a, b, us, vs, rfl, .inl ⟨SqL.of (hid_some a1).2, SqL.of (hid_some b1).2, q _ H2 (e1.trans e2') k2 ?_⟩⟩
          intro i H' s
          have q1 : SqL X.K H' a us := SqL.of (s _ _ a1)
          have q2 : SqL X.K H' b vs := SqL.of (s _ _ b1)
          rw [zipD_len]
          refine ⟨fun hi => ?_, fun hi => ⟨us, vs, q1, q2, by rw [a2.len, b2.len]; omega⟩, fun v H'' hi y => ?_⟩
          · have hx : i < us.length := by rw [a2.len]; omega
            have hy : i < vs.length := by rw [b2.len]; omega
            exact ⟨us, vs, us[i], vs[i], q1, q2, List.getElem?_eq_getElem hx, List.getElem?_eq_getElem hy⟩
          · obtain ⟨T, x, y, rfl, nT, rfl, fx, fy⟩ := y
            obtain ⟨d, h1, h2⟩ := a2.ta (fx us q1)
            obtain ⟨d', h3, h4⟩ := b2.ta (fy vs q2)
            refine ⟨sm_upd nT, _, zipD_at h1 h3, fun Z z1 z2 => ?_⟩
            exact .tpw (.inl (.inl (z2 T _ nT upd_same))) (.cons (Dv.mono z1 _ _ h2) (.cons (Dv.mono z1 _ _ h4) .nil))
    · cases d1' with
      | @tup a us _ a1 a2 =>
        cases d2 with
        | @tup b vs _ b1 b2 =>
          refine ⟨a, b, us, vs, rfl, .inr ⟨sq_hid a1.sq, sq_hid b1.sq, q _ H2 (e1.trans e2') k2 ?_⟩⟩
          intro i H' s
          have q1 : SqT X.K H' a us := sqt_mono s a1.sq
          have q2 : SqT X.K H' b vs := sqt_mono s b1.sq
          rw [zipD_len]
          refine ⟨fun hi => ?_, fun hi => ⟨us, vs, q1, q2, by rw [a2.len, b2.len]; omega⟩, fun v H'' hi y => ?_⟩
          · have hx : i < us.length := by rw [a2.len]; omega
            have hy : i < vs.length := by rw [b2.len]; omega
            exact ⟨us, vs, us[i], vs[i], q1, q2, List.getElem?_eq_getElem hx, List.getElem?_eq_getElem hy⟩
          · obtain ⟨T, x, y, rfl, nT, rfl, fx, fy⟩ := y
            obtain ⟨d, h1, h2⟩ := a2.ta (fx us q1)
            obtain ⟨d', h3, h4⟩ := b2.ta (fy vs q2)
            refine ⟨sm_upd nT, _, zipD_at h1 h3, fun Z z1 z2 => ?_⟩
            exact .tpw (.inl (.inl (z2 T _ nT upd_same))) (.cons (Dv.mono z1 _ _ h2) (.cons (Dv.mono z1 _ _ h4) .nil))
  · rcases z with ⟨xs, ys, e1, e2, z⟩ | ⟨xs, ys, e1, e2, z⟩
    · exact .inl ⟨xs, ys, e1, e2, q _ z⟩
    · exact .inr ⟨xs, ys, e1, e2, q _ z⟩
end

/-! ### for -/
def forD (gd : TDG) (tb : TDS) (E : EnD) : List Da → En → Prop
  | [] => E.nx
  | d :: ds => fun r => gd d r fun r1 => tb { E with nx := forD gd tb E ds, ct := forD gd tb E ds, bk := E.nx } r1
def dFor (wd : TDI) (gd : TDG) (tb : TDS) : TDS := fun E r => wd r fun ds => forD gd tb E ds r
section
variable {X : Cx} {w : Wd}
theorem forD_mo {K : PySem.W.Frag} {g : TG} {gd : TDG} {vs : List Nat} {tb : TDS} (G : GDt K g gd vs) (m : MoS tb) {E E' : EnD} (l : Le E E') : ∀ ds r, forD gd tb E ds r → forD gd tb E' ds r
  | [], r, h => l.nx r h
  | d :: ds, r, h => G.mo _ _ _ _ (fun r1 z => m { E with nx := forD gd tb E ds, ct := forD gd tb E ds, bk := E.nx } { E' with nx := forD gd tb E' ds, ct := forD gd tb E' ds, bk := E'.nx } r1 ⟨forD_mo G m l ds, l.rt, l.nx, forD_mo G m l ds⟩ z) h
theorem psd_for {tg iter : Expr} {body : List Stmt} {g : TG} {gd : TDG} {vs : List Nat} {wd : TDI} {tb : TDS} {pos : Pos} (hi : PId X w tg iter wd) (hg : PG X tg g) (G : GDt X.K g gd vs) (gmo : ∀ v σ H Q Q', (∀ a b, Q a b → Q' a b) → g v σ H Q → g v σ H Q') (hb : PSsd X w body tb)
    (hp : PassesOwn (model X.prog X.w) X.A X.env X.xe := by exact PassesOwn.never) (hc : X.calm = true := by rfl) (hs : ∀ x, foldedSetIterable iter X.env x = pure x := by intro _; rfl) : PSd X w (.For tg iter body [] pos) (dFor wd gd tb) := by
  refine ⟨weS (ps_for hp hc hi.pi hg hb.ps hs) ?_, fun E E' r l h => hi.mo _ _ _ (fun ds => forD_mo G hb.mo l ds r) h⟩
  rintro E σ H ⟨W, own, r, S, h⟩
  refine ⟨W, own, r, S, hi.mo _ _ _ (fun ds q J H1 e1 k1 wk => ?_) h⟩
  refine ⟨fun i m σ' H' => m = ds.length - i ∧ i ≤ ds.length ∧ ∃ W' own' r', Grow w.g W H1 W' H' ∧ Stt X.K w W' own' r' σ' H' ∧ forD gd tb (endD X.K w W H E) (ds.drop i) r', ⟨ds.length, by simp, Nat.zero_le _, W, own, r, .refl, S.ext e1 k1, by rw [List.drop_zero]; exact q⟩, ?_⟩
  rintro i m σ' H' ⟨rfl, hi', W', own', r', gr, S', f⟩
  have up : Grow w.g W H W' H' := (Grow.of k1 e1).trans gr
  have sm : Sm (hid W H1) (hid W' H') := gr.data k1.gW
  have sm' : Sm (hid W H1) H' := fun a o z => (hid_some (sm a o z)).2
  obtain ⟨w1, w2, w3⟩ := wk i H' sm'
  by_cases hl : i < ds.length
  · refine .inr ⟨w1 hl, fun σ2 H2 => ∃ W2 own2 r2, Grow w.g W H1 W2 H2 ∧ Stt X.K w W2 own2 r2 σ2 H2 ∧ forD gd tb (endD X.K w W H E) (ds.drop (i + 1)) r2, fun σ2 H2 z => ?_, fun x H2 y => ?_⟩
    · exact ⟨ds.length - (i + 1), by omega, rfl, by omega, z⟩
    · obtain ⟨sH, d, hd, dv⟩ := w3 x H2 hl y
      have e2 : Ext w.g H' H2 := Ext.of sH
      have k2 : OkW X.K w.g W' H2 := S'.ok.same sH
      have S2 := S'.ext e2 k2
      have dvx : Dv X.K w.g (hid W' H2) x d := by
        refine dv _ (fun a o z => e2.hid S'.ok.gW a o (sm a o z)) fun b o nb z => ?_
        rw [hid_no]
        · exact z
        · cases y' : W' b with
          | false => rfl
          | true =>
            obtain ⟨o', z'⟩ := S'.ok.al b y'
            rw [nb] at z'; cases z'
      have ed : ds.drop i = d :: ds.drop (i + 1) := by
        obtain ⟨h1, h2⟩ := List.getElem?_eq_some_iff.mp hd
        rw [List.drop_eq_getElem_cons h1, h2]
      rw [ed] at f
      refine gmo _ _ _ _ _ ?_ (G.run w W' own' r' σ' H2 x d _ S2 dvx f)
      rintro σ3 H3 ⟨rfl, _, own3, r3, S3, t3⟩
      refine ⟨W', own3, r3, S3, hb.mo { endD X.K w W H E with nx := forD gd tb (endD X.K w W H E) (ds.drop (i + 1)), ct := forD gd tb (endD X.K w W H E) (ds.drop (i + 1)), bk := (endD X.K w W H E).nx } _ _ ⟨fun r4 z W4 o4 σ4 H4 g4 S4 => ?_, fun d z => z, fun r4 z W4 o4 σ4 H4 g4 S4 => ?_, fun r4 z W4 o4 σ4 H4 g4 S4 => ?_⟩ t3⟩
      · exact ⟨W4, o4, r4, gr.trans ((Grow.of k2 e2).trans g4), S4, z⟩
      · exact z W4 o4 σ4 H4 (up.trans ((Grow.of k2 e2).trans g4)) S4
      · exact ⟨W4, o4, r4, gr.trans ((Grow.of k2 e2).trans g4), S4, z⟩
  · refine .inl ⟨w2 (by omega), ?_⟩
    have ed : ds.drop i = [] := List.drop_eq_nil_of_le (by omega)
    rw [ed] at f
    exact f W' own' σ' H' up S'
end
end Pd
/-! Comprehensions; a def by its data promise. -/
namespace Pd
open PySem PySem.Spec PyProof.Rows L2

structure PTsd (X : Cx) (w : Wd) (ifs : List Expr) (t : TDT) : Prop where
  pt : PTs X ifs (liT X.K w t)
  mo : ∀ r Q Q', (∀ b, Q b → Q' b) → t r Q → t r Q'
def dYes : TDT := fun _ Q => Q true
section
variable {X : Cx} {w : Wd} {e : Expr} {pos : Pos}
theorem ptsd_nil : PTsd X w [] dYes := by
  refine ⟨⟨fun pins s σ H Q I h => pts_nil.run pins s σ H Q I ?_⟩, fun r Q Q' q h => q _ h⟩
  obtain ⟨W, own, r, S, h⟩ := h
  exact h H Ext.refl S.ok
theorem ptsd_one {c : Expr} {t : TDT} (h : PTd X w c t) : PTsd X w [c] t := ⟨pts_one h.pt, h.mo⟩

/-- the turns of a comprehension: acc is made so far -/
def lcD (gd : TDG) (tt : TDT) (te : TDE) (vs : List Nat) (r : En) (Q : Da → Prop) : List Da → List Da → Prop
  | [], acc => Q (.lst acc)
  | d :: ds, acc => gd d (wipeD r vs) fun r2 => tt r2 fun b => if b = true then te r2 fun y => acc.length < sizeLine ∧ lcD gd tt te vs r Q ds (acc ++ [y]) else lcD gd tt te vs r Q ds acc
def dLc (wd : TDI) (gd : TDG) (tt : TDT) (te : TDE) (vs : List Nat) : TDE := fun r Q => wd r fun ds => lcD gd tt te vs r Q ds []

/-- a list that grows at D, hidden -/
def hideD (W : Addr → Bool) (D : Addr) : Addr → Bool := fun a => decide (a = D) || W a
theorem hideD_at {W : Addr → Bool} {D : Addr} : hideD W D D = true := by simp [hideD]
theorem hideD_le {W : Addr → Bool} {D a : Addr} (h : W a = true) : hideD W D a = true := by simp [hideD, h]
theorem hideD_ne {W : Addr → Bool} {D a : Addr} (h : a ≠ D) : hideD W D a = W a := by simp [hideD, h]
theorem Stt.hideD {K : PySem.W.Frag} {W : Addr → Bool} {own : Ow} {r : En} {σ : L2.St} {H H' : Hp} {D : Addr} {xs : List V} (S : Stt K w W own r σ H) (hD : H D = none) (sm : Ext w.g H H') (kD : H' D = some (.lst xs)) (bg : BagI K w.g (Pd.hideD W D) H') : Stt K w (Pd.hideD W D) own r σ H' := by
  have sub : Sm (hid W H) (hid (Pd.hideD W D) H') := fun a o q => by
    obtain ⟨q1, q2⟩ := hid_some q
    have ne : a ≠ D := fun z => by rw [z, hD] at q2; cases q2
    rw [hid_no (by rw [hideD_ne ne]; exact q1)]
    exact sm a o (fun z => by rw [S.ok.gW a z] at q1; cases q1) q2
  refine ⟨⟨bg, fun a h => hideD_le (S.ok.gW a h), fun a h => ?_⟩, S.base.trans sm, fun a h => hideD_le (S.w0 a h), S.g0, fun i a h => ?_, fun i j a h1 h2 => ⟨(S.inj i j a h1 h2).1, (S.inj i j a h1 h2).2.up fun o z => sm a o (S.oW i a h1).2.2 z⟩, S.len, fun i d h n => ?_⟩
  · by_cases z : a = D
    · exact ⟨_, by rw [z]; exact kD⟩
    · rw [hideD_ne z] at h
      by_cases y : w.g = some a
      · obtain ⟨_, _, _, _, _, q, _⟩ := bg a y
        exact ⟨_, q⟩
      · obtain ⟨o, q⟩ := S.ok.al a h
        exact ⟨o, sm a o y q⟩
  · obtain ⟨a1, a2, a3⟩ := S.oW i a h
    exact ⟨hideD_le a1, a2, a3⟩
  · obtain ⟨v, h1, h2⟩ := S.sl i d h n
    refine ⟨v, h1, ?_⟩
    cases d with
    | no => trivial
    | dat d => exact Dv.mono sub _ _ h2
    | own ds =>
      obtain ⟨a, xs, q1, q2, q3, q4⟩ := h2
      exact ⟨a, xs, q1, q2, sm a _ (S.oW i a q1.1).2.2 q3, DvAll.mono sub _ _ q4⟩
    | reg ds =>
      obtain ⟨a, xs, q1, q2, q3, q4⟩ := h2
      exact ⟨a, xs, q1, q2, sm a _ (S.oW i a q1).2.2 q3, DvAll.mono (cutAt_sm (vis_up (fun a o q z => ⟨q, sm a o (S.oW i a q).2.2 z⟩) sub)) _ _ q4⟩

theorem lcD_mo {K : PySem.W.Frag} {g : TG} {gd : TDG} {vs' vs : List Nat} {tt : TDT} {te : TDE} {r : En} (G : GDt K g gd vs') (mt : ∀ r Q Q', (∀ b, Q b → Q' b) → tt r Q → tt r Q') (me : ∀ r Q Q', (∀ b, Q b → Q' b) → te r Q → te r Q') {Q Q' : Da → Prop} (q : ∀ d, Q d → Q' d) :
    ∀ ds acc, lcD gd tt te vs r Q ds acc → lcD gd tt te vs r Q' ds acc
  | [], acc, h => q _ h
  | d :: ds, acc, h => G.mo _ _ _ _ (fun r2 z => mt _ _ _ (fun b z => ite_mo (me _ _ _ fun y z => ⟨z.1, lcD_mo G mt me q ds _ z.2⟩) (lcD_mo G mt me q ds _) z) z) h

/-- the reading of a comprehension, given in data -/
theorem lc_in {K : PySem.W.Frag} {g : TG} {gd : TDG} {gvs vs : List Nat} {tt : TDT} {te : TDE} {σ : L2.St} {H : Hp} {Q : VK} {wd : TDI} (G : GDt K g gd gvs) (gmo : ∀ v σ H Q Q', (∀ a b, Q a b → Q' a b) → g v σ H Q → g v σ H Q') (sub : ∀ i ∈ gvs, i ∈ vs)
    (mt : ∀ r Q Q', (∀ b, Q b → Q' b) → tt r Q → tt r Q') (me : ∀ r Q Q', (∀ b, Q b → Q' b) → te r Q → te r Q') (mw : ∀ r Q Q', (∀ ds, Q ds → Q' ds) → wd r Q → wd r Q')
    (h : liE K w (dLc wd gd tt te vs) σ H Q) : tLc (liI K w wd) g (liT K w tt) (liE K w te) vs σ H Q := by
  obtain ⟨W, own, r, S, h⟩ := h
  refine ⟨W, own, r, S, mw _ _ _ (fun ds q J H1 e1 k1 wk => ?_) h⟩
  intro D hD
  have S1 := S.ext e1 k1
  -- the state while the list at D grows
  have bagD : ∀ {H' : Hp}, Ext w.g H1 H' → (∀ a, w.g = some a → ∃ (x y : Int) (z : Nat) (c : Addr) (cs : List Int), H' a = some (.lst [.int x, .int y, .int z, .ref c]) ∧ hid (hideD W D) H' c = some (.lst (cs.map V.int))) → BagI K w.g (hideD W D) H' := fun {H'} _ z a ha => z a ha
  refine ⟨fun i m H' => m = ds.length - i ∧ i ≤ ds.length ∧ ∃ av ad, Ext w.g H1 H' ∧ BagI K w.g (hideD W D) H' ∧ H' D = some (.lst av) ∧ DvAll K w.g (hid (hideD W D) H') av ad ∧ lcD gd tt te vs r (Aft K w.g W H Q) (ds.drop i) ad, ⟨ds.length, by simp, Nat.zero_le _, [], [], ?_, ?_, upd_same, .nil, by rw [List.drop_zero]; exact q⟩, ?_⟩
  · exact Ext.of (sm_upd hD)
  · intro a ha
    obtain ⟨x, y, z, c, cs, b1, b2⟩ := S1.ok.bag a ha
    obtain ⟨c1, c2⟩ := hid_some b2
    have ne : a ≠ D := ne_of_none b1 hD
    have ne2 : c ≠ D := ne_of_none c2 hD
    exact ⟨x, y, z, c, cs, by rw [upd_ne ne]; exact b1, by rw [hid_no (by rw [hideD_ne ne2]; exact c1), upd_ne ne2]; exact c2⟩
  · rintro i m H' ⟨rfl, hi', av, ad, eH, bg, hD', dva, f⟩
    have SD : Stt K w (hideD W D) own r σ H' := S1.hideD hD eH hD' bg
    have sm : Sm (hid W H1) (hid (hideD W D) H') := fun a o z => by
      obtain ⟨q1, q2⟩ := hid_some z
      have ne : a ≠ D := ne_of_none q2 hD
      rw [hid_no (by rw [hideD_ne ne]; exact q1)]
      exact eH a o (fun z => by rw [S1.ok.gW a z] at q1; cases q1) q2
    have sm' : Sm (hid W H1) H' := fun a o z => (hid_some (sm a o z)).2
    obtain ⟨w1, w2, w3⟩ := wk i H' sm'
    by_cases hl : i < ds.length
    · refine .inr ⟨w1 hl, fun H2 => ∃ av ad, Ext w.g H1 H2 ∧ BagI K w.g (hideD W D) H2 ∧ H2 D = some (.lst av) ∧ DvAll K w.g (hid (hideD W D) H2) av ad ∧ lcD gd tt te vs r (Aft K w.g W H Q) (ds.drop (i + 1)) ad, fun H2 z => ?_, fun x H2 y => ?_⟩
      · exact ⟨ds.length - (i + 1), by omega, rfl, by omega, z⟩
      · obtain ⟨sH, d, hd, dv⟩ := w3 x H2 hl y
        have e2 : Ext w.g H' H2 := Ext.of sH
        have k2 : OkW K w.g (hideD W D) H2 := SD.ok.same sH
        have S2 := (SD.ext e2 k2).wipe vs
        have dvx : Dv K w.g (hid (hideD W D) H2) x d := by
          refine dv _ (fun a o z => e2.hid SD.ok.gW a o (sm a o z)) fun b o nb z => ?_
          rw [hid_no]
          · exact z
          · cases y' : hideD W D b with
            | false => rfl
            | true =>
              obtain ⟨o', z'⟩ := SD.ok.al b y'
              rw [nb] at z'; cases z'
        have ed : ds.drop i = d :: ds.drop (i + 1) := by
          obtain ⟨h1, h2⟩ := List.getElem?_eq_some_iff.mp hd
          rw [List.drop_eq_getElem_cons h1, h2]
        rw [ed] at f
        have hD2 : H2 D = some (.lst av) := sH _ _ hD'
        have dva2 : DvAll K w.g (hid (hideD W D) H2) av ad := DvAll.mono (e2.hid SD.ok.gW) _ _ dva
        refine gmo _ _ _ _ _ ?_ (G.run w (hideD W D) own (wipeD r vs) (L2.wipe σ vs) H2 x d _ S2 dvx f)
        rintro σ3 H3 ⟨rfl, wp, own3, r3, S3, t3⟩
        refine ⟨by rw [wp vs sub, wipe_idem], hideD W D, own3, r3, S3, mt _ _ _ (fun b z H4 e4 k4 => ?_) t3⟩
        have gne : w.g ≠ some D := fun z => by
          have z1 := S1.ok.al D (S1.ok.gW D z)
          obtain ⟨o, z2⟩ := z1
          rw [hD] at z2; cases z2
        refine ite_mo (fun z => ?_) (fun z => ?_) z
        · refine ⟨hideD W D, own3, r3, S3.ext e4 k4, me _ _ _ (fun y z v H5 e5 k5 d5 => ?_) z⟩
          have e45 := e4.trans e5
          have hD5 : H5 D = some (.lst av) := e45 D _ gne hD2
          have dva5 : DvAll K w.g (hid (hideD W D) H5) av ad := DvAll.mono (e45.hid k2.gW) _ _ dva2
          have eq : hid (hideD W D) (upd H5 D (.lst (av ++ [v]))) = hid (hideD W D) H5 := by
            funext a
            unfold hid
            by_cases z : a = D
            · subst z; rw [hideD_at, if_pos rfl, if_pos rfl]
            · rw [upd_ne z]
          refine ⟨av, hD5, by rw [dva.len]; exact z.1, av ++ [v], ad ++ [y], ⟨fun b o nb hb => ?_, fun a xs ha hx => ?_⟩, fun a ha => ?_, upd_same, by rw [eq]; exact dva5.app (.cons d5 .nil), z.2⟩
          · have ne : b ≠ D := ne_of_none hb hD
            rw [upd_ne ne]
            exact (eH.trans (e2.trans e45)) b o nb hb
          · have ne : a ≠ D := fun z => gne (z ▸ ha)
            rw [upd_ne ne]
            exact (eH.trans (e2.trans e45)).last a xs ha hx
          · obtain ⟨x1, x2, x3, c, cs, b1, b2⟩ := k5.bag a ha
            have ne : a ≠ D := fun z => gne (z ▸ ha)
            exact ⟨x1, x2, x3, c, cs, by rw [upd_ne ne]; exact b1, by rw [eq]; exact b2⟩
        · exact ⟨av, ad, eH.trans (e2.trans e4), k4.bag, e4 D _ gne hD2, DvAll.mono (e4.hid k2.gW) _ _ dva2, z⟩
    · refine .inl ⟨w2 (by omega), ?_⟩
      have ed : ds.drop i = [] := List.drop_eq_nil_of_le (by omega)
      rw [ed] at f
      have kW : OkW K w.g W H' := by
        refine ⟨fun a ha => ?_, S1.ok.gW, fun a ha => SD.ok.al a (hideD_le ha)⟩
        obtain ⟨x1, x2, x3, c, cs, b1, b2⟩ := bg a ha
        exact ⟨x1, x2, x3, c, cs, b1, hid_le (fun a h => hideD_le h) _ _ b2⟩
      have Wd' : W D = false := by
        cases y' : W D with
        | false => rfl
        | true =>
          obtain ⟨o', z'⟩ := S1.ok.al D y'
          rw [hD] at z'; cases z'
      refine f _ H' (e1.trans eH) kW (.lst (by rw [hid_no Wd']; exact hD') (DvAll.mono (hid_le fun a h => hideD_le h) _ _ dva))

theorem ped_lc {elt tg iter : Expr} {ifs : List Expr} {scope : Scope} {own : List (Str × Nat)} {g : TG} {gd : TDG} {gvs : List Nat} {wd : TDI} {tt : TDT} {te : TDE} (hN : X.N.Nodup) (hi : PId X w tg iter wd) (ok : BlkOk X.N X.env.scope scope own) (G : GDt X.K g gd gvs) (gmo : ∀ v σ H Q Q', (∀ a b, Q a b → Q' a b) → g v σ H Q → g v σ H Q') (sub : ∀ i ∈ gvs, i ∈ own.map (·.2))
    (hg : ∀ (s : Shared) (H : Hp) (C : Addr) (cl : List (Str × Addr)) (fp : List Addr), PG (X.blk s H scope (compEnvC scope cl C X.env) fp) tg g)
    (ht : ∀ (s : Shared) (H : Hp) (C : Addr) (cl : List (Str × Addr)) (fp : List Addr), PTsd (X.blk s H scope (compEnvC scope cl C X.env) fp) w ifs tt)
    (he : ∀ (s : Shared) (H : Hp) (C : Addr) (cl : List (Str × Addr)) (fp : List Addr), PEd (X.blk s H scope (compEnvC scope cl C X.env) fp) w elt te)
    (s0 : Shared) (hc : X.calm = true := by rfl) (hs : ∀ x, foldedSetIterable iter X.env x = pure x := by intro _; rfl) :
    PEd X w (.ListComp elt [⟨tg, iter, ifs, 0⟩] scope pos) (dLc wd gd tt te (own.map (·.2))) := by
  have mt := (ht s0 (fun _ => none) 0 [] []).mo
  have me := (he s0 (fun _ => none) 0 [] []).mo
  refine ⟨weE (pe_lc (tt := liT X.K w tt) (te := liE X.K w te) hc hN hi.pi ok hg (fun s H C cl fp => (ht s H C cl fp).pt) (fun s H C cl fp => (he s H C cl fp).pe) hs) fun σ H Q h => lc_in G gmo sub mt me hi.mo h, fun r Q Q' q h => hi.mo _ _ _ (fun ds => lcD_mo G mt me q ds []) h⟩
/-- name = [..] -/
theorem psd_setLc {i : Nat} {y : Str} {py spos : Pos} {elt tg iter : Expr} {ifs : List Expr} {scope : Scope} {own : List (Str × Nat)} {g : TG} {gd : TDG} {gvs : List Nat} {wd : TDI} {tt : TDT} {te : TDE} (hN : X.N.Nodup) (hi : PId X w tg iter wd) (ok : BlkOk X.N X.env.scope scope own) (G : GDt X.K g gd gvs) (gmo : ∀ v σ H Q Q', (∀ a b, Q a b → Q' a b) → g v σ H Q → g v σ H Q') (sub : ∀ i ∈ gvs, i ∈ own.map (·.2))
    (hg : ∀ (s : Shared) (H : Hp) (C : Addr) (cl : List (Str × Addr)) (fp : List Addr), PG (X.blk s H scope (compEnvC scope cl C X.env) fp) tg g)
    (ht : ∀ (s : Shared) (H : Hp) (C : Addr) (cl : List (Str × Addr)) (fp : List Addr), PTsd (X.blk s H scope (compEnvC scope cl C X.env) fp) w ifs tt)
    (he : ∀ (s : Shared) (H : Hp) (C : Addr) (cl : List (Str × Addr)) (fp : List Addr), PEd (X.blk s H scope (compEnvC scope cl C X.env) fp) w elt te)
    (s0 : Shared) (hsw : swapsWith (.ListComp elt [⟨tg, iter, ifs, 0⟩] scope pos) (some (.Name y py)) spos.line X.env = pure true) (hy : X.N[i]? = some y := by rfl) (hyl : X.env.scope.names.lookup y = some .local := by rfl) (hc : X.calm = true := by rfl) (hs : ∀ x, foldedSetIterable iter X.env x = pure x := by intro _; rfl) :
    PSd X w (.Assign [.Name y py] (.ListComp elt [⟨tg, iter, ifs, 0⟩] scope pos) spos) (dSet (dLc wd gd tt te (own.map (·.2))) i) := by
  have mt := (ht s0 (fun _ => none) 0 [] []).mo
  have me := (he s0 (fun _ => none) 0 [] []).mo
  have mE : ∀ r Q Q', (∀ d, Q d → Q' d) → dLc wd gd tt te (own.map (·.2)) r Q → dLc wd gd tt te (own.map (·.2)) r Q' := fun r Q Q' q h => hi.mo _ _ _ (fun ds => lcD_mo G mt me q ds []) h
  refine ⟨weS (ps_setLc (i := i) (tt := liT X.K w tt) (te := liE X.K w te) hc hN hy hyl hsw hi.pi ok hg (fun s H C cl fp => (ht s H C cl fp).pt) (fun s H C cl fp => (he s H C cl fp).pe) hs) ?_, fun E E' r l h => mE _ _ _ (fun d => l.nx _) h⟩
  rintro D σ H ⟨W, own', r, S, h⟩
  refine lc_in G gmo sub mt me hi.mo ⟨W, own', r, S, mE _ _ _ (fun d z v H1 e1 k1 d1 => ?_) h⟩
  obtain ⟨o2, S2⟩ := (S.ext e1 k1).set (i := i) d1
  exact z W o2 _ H1 (.of k1 e1) S2
end

/-! ### a def by its data promise -/
def startD (N : List Str) (ds : List Da) : En := ds.map .dat ++ List.replicate (N.length - ds.length) .no
theorem start_stt {K : PySem.W.Frag} {g : Option Addr} {W : Addr → Bool} {H : Hp} {N : List Str} {vs : List V} {ds : List Da} (k : OkW K g W H) (dv : DvAll K g (hid W H) vs ds) : Stt K ⟨H, g, W⟩ W (fun _ _ => False) (startD N ds) (start N vs) H := by
  refine ⟨k, Ext.refl, fun _ h => h, k.gW, (fun i a h => h.elim), (fun i j a h => h.elim), ?_, fun i d h n => ?_⟩
  · unfold startD L2.start
    rw [List.length_append, List.length_append, List.length_map, List.length_map, List.length_replicate, List.length_replicate, dv.len]
  · unfold startD at h
    by_cases hi : i < ds.length
    · rw [List.getElem?_append_left (by rw [List.length_map]; exact hi), List.getElem?_map] at h
      cases q : ds[i]? with
      | none => rw [q] at h; cases h
      | some d' =>
        rw [q] at h
        cases h
        obtain ⟨v, h1, h2⟩ := dv.at q
        refine ⟨v, ?_, h2⟩
        unfold L2.start
        have hv : i < vs.length := by rw [dv.len]; exact hi
        rw [List.getElem?_append_left (by rw [List.length_map]; exact hv), List.getElem?_map, h1]
        rfl
    · rw [List.getElem?_append_right (by rw [List.length_map]; omega), List.getElem?_replicate] at h
      split at h
      · cases h
        exact absurd rfl n
      · cases h
theorem defD {P : Program} {wd : World} {K : PySem.W.Frag} {mg : Str → Option Value} {base : Heap} {x qual : Str} {st : Stmt} {f : Addr} {fd : FuncData} {N ps : List Str} {k : Nat} {p : DSp}
    (F : Fun K x qual st f fd) (S : FnScope N ps (defScope st)) (len : ∀ ds Q, p ds Q → ds.length = ps.length) (mp : MoP p)
    (inside : ∀ (cdv : Value) (A : Around) (outer : List Env) (s0 : Shared) (H : Hp) (E : XK) (w : Wd) (ds : List Da) (Q : Da → Prop), Room k (A.deeper (envOfC qual (defScope st) s0.heap.objs.size f cdv)) → A.guards = some [] → p ds Q →
      ∃ t, PSsd (cxOf CX0 P wd K mg base N qual (defScope st) f cdv A outer s0 H E).nox w (defBody st) t ∧ t { nx := fun _ => Q .non, rt := Q } (startD N ds)) :
    FnG P wd K mg base CX0 (k + 1) f fd ps (liP K p) := by
  refine FunG.ok F S ?_ ?_
  · rintro vs H Q E ⟨g, W, ds, k1, dv, h⟩
    rw [dv.len]
    exact len _ _ h
  · rintro cdv A outer s0 H vs Q E room hG ⟨g, W, ds, k1, dv, h⟩
    obtain ⟨t, ht, hq⟩ := inside cdv A outer s0 H E ⟨H, g, W⟩ ds _ room hG h
    refine ⟨_, ht.ps, W, fun _ _ => False, startD N ds, start_stt k1 dv, ht.mo { nx := fun _ => Aft K g W H Q .non, rt := Aft K g W H Q } _ _ ⟨fun r' q W' o' σ' H' g' S' => ?_, fun d q v H' e1 k2 d2 => q v H' e1 k2 d2, fun _ q => q.elim, fun _ q => q.elim⟩ hq⟩
    have z := ret_ok (E := { nx := fun _ H' => Q .non H', rt := Q }) (d := .non) (v := V.non) S' (fun v H1 e1 k2 d2 => q v H1 e1 k2 d2) H' Ext.refl S'.ok .non
    exact z
end Pd
/-! Built-ins on data. -/
namespace Pd
open PySem PySem.Spec PyProof.Rows L2

/-- lists and tuples -/
def seqOf : Da → Option (List Da)
  | .lst xs => some xs
  | .tup xs => some xs
  | .tpw xs => some xs
  | _ => none
section
variable {K : PySem.W.Frag} {g : Option Addr} {W : Addr → Bool} {H : Hp}
theorem seq_sq {v : V} {d : Da} {ds : List Da} (h : Dv K g (hid W H) v d) (e : seqOf d = some ds) : ∃ a xs, v = .ref a ∧ (SqL K H a xs ∨ SqT K H a xs) ∧ DvAll K g (hid W H) xs ds := by
  unfold seqOf at e
  split at e
  · cases e
    cases h with
    | lst h1 h2 => exact ⟨_, _, rfl, .inl (SqL.of (hid_some h1).2), h2⟩
  · cases e
    cases h with
    | tup h1 h2 => exact ⟨_, _, rfl, .inr (sq_hid h1.sq), h2⟩
  · cases e
    cases h with
    | tpw h1 h2 => exact ⟨_, _, rfl, .inr (sq_hid h1), h2⟩
  · cases e
theorem DvAll.one {vs : List V} {d : Da} (h : DvAll K g H vs [d]) : ∃ v, vs = [v] ∧ Dv K g H v d := by
  cases h with
  | cons a t => cases t; exact ⟨_, rfl, a⟩
theorem DvAll.two {vs : List V} {d e : Da} (h : DvAll K g H vs [d, e]) : ∃ v u, vs = [v, u] ∧ Dv K g H v d ∧ Dv K g H u e := by
  cases h with
  | cons a t =>
    cases t with
    | cons b t => cases t; exact ⟨_, _, rfl, a, b⟩
end
section
variable {X : Cx} {w : Wd} {e : Expr} {es : List Expr} {p pos : Pos} {t : TDA}

/-! ### len, abs, int, tuple, list, sum -/
def lenD : DB := fun ds Q => ∃ x, ds = [x] ∧ ((∃ xs, seqOf x = some xs ∧ Q (.int (xs.length : Nat))) ∨ ∃ z, x = .str z ∧ z.length ≤ sizeLine ∧ Q (.int (z.length : Nat)))
theorem lenD_mo : MoP lenD := fun ds Q Q' q ⟨x, h1, h⟩ => ⟨x, h1, h.elim (fun ⟨xs, a, b⟩ => .inl ⟨xs, a, q _ b⟩) fun ⟨z, a, b, c⟩ => .inr ⟨z, a, b, q _ c⟩⟩
theorem ped_len (hm : X.mg "len" = none) (args : PAd X w (e :: es) t) (hg : Gl X "len" := by rfl) (he : starEach (e :: es) X.env = (false, eval e X.env) :: starEach es X.env := by rfl) (hpl : (backTo pos (starEach es X.env)).any (·.1) = false := by rfl) :
    PEd X w (.Call (.Name "len" p) (e :: es) [] pos) (dCall lenD t) := by
  refine ped_callB call_len lenD_mo ?_ hm PySem.boot_len args hg (by decide) (by decide) he hpl
  rintro g W H vs ds Q k dv ⟨x, rfl, h⟩
  obtain ⟨v, rfl, dx⟩ := dv.one
  rcases h with ⟨xs, h1, h2⟩ | ⟨z, rfl, h1, h2⟩
  · obtain ⟨a, us, rfl, hq, hd⟩ := seq_sq dx h1
    refine ⟨_, us.length, rfl, ?_, h2.now k ?_⟩
    · rcases hq with hq | hq
      · exact .inl ⟨us, hq, rfl⟩
      · exact .inr ⟨us, hq, rfl⟩
    · rw [hd.len]
      exact .int _
  · cases dx
    exact ⟨_, z.length, rfl, ⟨h1, rfl⟩, h2.now k (.int _)⟩
def absD : DB := fun ds Q => ∃ i, ds = [.int i] ∧ Q (.int (if i < 0 then -i else i))
theorem ped_abs (hm : X.mg "abs" = none) (args : PAd X w (e :: es) t) (hg : Gl X "abs" := by rfl) (he : starEach (e :: es) X.env = (false, eval e X.env) :: starEach es X.env := by rfl) (hpl : (backTo pos (starEach es X.env)).any (·.1) = false := by rfl) :
    PEd X w (.Call (.Name "abs" p) (e :: es) [] pos) (dCall absD t) := by
  refine ped_callB call_abs (fun ds Q Q' q ⟨i, a, b⟩ => ⟨i, a, q _ b⟩) ?_ hm (by decide +kernel) args hg (by decide) (by decide) he hpl
  rintro g W H vs ds Q k dv ⟨i, rfl, h⟩
  obtain ⟨v, rfl, dx⟩ := dv.one
  cases dx
  exact ⟨i, rfl, h.now k (.int _)⟩
def intFD : DB := fun ds Q => (∃ i, ds = [.int i] ∧ Q (.int i)) ∨ ∃ b, ds = [.bl b] ∧ Q (.int (if b then 1 else 0))
theorem ped_intF (hm : X.mg "int" = none) (args : PAd X w (e :: es) t) (hg : Gl X "int" := by rfl) (he : starEach (e :: es) X.env = (false, eval e X.env) :: starEach es X.env := by rfl) (hpl : (backTo pos (starEach es X.env)).any (·.1) = false := by rfl) :
    PEd X w (.Call (.Name "int" p) (e :: es) [] pos) (dCall intFD t) := by
  refine ped_callTy call_int1 (fun ds Q Q' q h => h.elim (fun ⟨i, a, b⟩ => .inl ⟨i, a, q _ b⟩) fun ⟨i, a, b⟩ => .inr ⟨i, a, q _ b⟩) ?_ hm (by decide +kernel) args hg (by decide) (by decide) he hpl
  rintro g W H vs ds Q k dv h
  rcases h with ⟨i, rfl, h⟩ | ⟨i, rfl, h⟩
  · obtain ⟨v, rfl, dx⟩ := dv.one
    cases dx
    exact .inl ⟨i, rfl, h.now k (.int _)⟩
  · obtain ⟨v, rfl, dx⟩ := dv.one
    cases dx
    exact .inr ⟨i, rfl, h.now k (.int _)⟩
def tupFD : DB := fun ds Q => ∃ x, ds = [x] ∧ ((∃ xs, x = .lst xs ∧ Q (.tup xs)) ∨ ∃ xs, x = .tup xs ∧ Q (.tup xs))
theorem ped_tupF (hm : X.mg "tuple" = none) (args : PAd X w (e :: es) t) (hg : Gl X "tuple" := by rfl) (he : starEach (e :: es) X.env = (false, eval e X.env) :: starEach es X.env := by rfl) (hpl : (backTo pos (starEach es X.env)).any (·.1) = false := by rfl) :
    PEd X w (.Call (.Name "tuple" p) (e :: es) [] pos) (dCall tupFD t) := by
  refine ped_callTy cr_tupS (fun ds Q Q' q ⟨x, a, h⟩ => ⟨x, a, h.elim (fun ⟨i, a, b⟩ => .inl ⟨i, a, q _ b⟩) fun ⟨i, a, b⟩ => .inr ⟨i, a, q _ b⟩⟩) ?_ hm (by decide +kernel) args hg (by decide) (by decide) he hpl
  rintro g W H vs ds Q k dv ⟨x, rfl, h⟩
  obtain ⟨v, rfl, dx⟩ := dv.one
  rcases h with ⟨xs, rfl, h⟩ | ⟨xs, rfl, h⟩
  · cases dx with
    | lst a1 a2 => exact ⟨_, _, rfl, .inl ⟨SqL.of (hid_some a1).2, h.newT k a2⟩⟩
  · cases dx with
    | tup a1 a2 => exact ⟨_, _, rfl, .inr ⟨sq_hid a1.sq, h.now k (.tup a1 a2)⟩⟩
def lstFD : DB := fun ds Q => ∃ x xs, ds = [x] ∧ seqOf x = some xs ∧ Q (.lst xs)
theorem ped_lstF (hm : X.mg "list" = none) (args : PAd X w (e :: es) t) (hg : Gl X "list" := by rfl) (he : starEach (e :: es) X.env = (false, eval e X.env) :: starEach es X.env := by rfl) (hpl : (backTo pos (starEach es X.env)).any (·.1) = false := by rfl) :
    PEd X w (.Call (.Name "list" p) (e :: es) [] pos) (dCall lstFD t) := by
  refine ped_callTy call_list_of (fun ds Q Q' q ⟨x, xs, a, b, h⟩ => ⟨x, xs, a, b, q _ h⟩) ?_ hm (by decide +kernel) args hg (by decide) (by decide) he hpl
  rintro g W H vs ds Q k dv ⟨x, xs, rfl, h1, h⟩
  obtain ⟨v, rfl, dx⟩ := dv.one
  obtain ⟨a, us, rfl, hq, hd⟩ := seq_sq dx h1
  exact ⟨a, us, rfl, hq, fun l nl => h.newL k nl hd⟩
def sumD : DB := fun ds Q => ∃ is : List Int, ds = [.lst (is.map .int)] ∧ Q (.int is.sum)
theorem ped_sum (hm : X.mg "sum" = none) (args : PAd X w (e :: es) t) (hc : X.calm = true := by rfl) (hg : Gl X "sum" := by rfl) (he : starEach (e :: es) X.env = (false, eval e X.env) :: starEach es X.env := by rfl) (hpl : (backTo pos (starEach es X.env)).any (·.1) = false := by rfl) :
    PEd X w (.Call (.Name "sum" p) (e :: es) [] pos) (dCall sumD t) := by
  refine ped_callB (cr_sum hc) (fun ds Q Q' q ⟨x, a, h⟩ => ⟨x, a, q _ h⟩) ?_ hm (by decide +kernel) args hg (by decide) (by decide) he hpl
  rintro g W H vs ds Q k dv ⟨is, rfl, h⟩
  obtain ⟨v, rfl, dx⟩ := dv.one
  cases dx with
  | lst a1 a2 =>
    have ei := a2.ints
    subst ei
    exact ⟨_, is, rfl, SqL.of (hid_some a1).2, h.now k (.int _)⟩
def allD : DB := fun ds Q => ∃ bs : List Bool, ds = [.lst (bs.map .bl)] ∧ Q (.bl (bs.all id))
theorem DvAll.bls {K : PySem.W.Frag} {g : Option Addr} {H : Hp} : ∀ {is : List Bool} {xs : List V}, DvAll K g H xs (is.map .bl) → xs = is.map V.bl
  | [], _, h => by cases h; rfl
  | i :: is, _, h => by
    cases h with
    | cons p t =>
      cases p
      rw [DvAll.bls t, List.map_cons]
theorem ped_all (hm : X.mg "all" = none) (args : PAd X w (e :: es) t) (hc : X.calm = true := by rfl) (hg : Gl X "all" := by rfl) (he : starEach (e :: es) X.env = (false, eval e X.env) :: starEach es X.env := by rfl) (hpl : (backTo pos (starEach es X.env)).any (·.1) = false := by rfl) :
    PEd X w (.Call (.Name "all" p) (e :: es) [] pos) (dCall allD t) := by
  refine ped_callB (cr_all hc) (fun ds Q Q' q ⟨x, a, h⟩ => ⟨x, a, q _ h⟩) ?_ hm (by decide +kernel) args hg (by decide) (by decide) he hpl
  rintro g W H vs ds Q k dv ⟨is, rfl, h⟩
  obtain ⟨v, rfl, dx⟩ := dv.one
  cases dx with
  | lst a1 a2 =>
    have ei := a2.bls
    subst ei
    exact ⟨_, is, rfl, SqL.of (hid_some a1).2, h.now k (.bl _)⟩

/-! ### sorted -/
def srtOk (ds : List Da) : Prop := canPs ds = true ∧ PySem.W.AllAlike (ds.map toP) ∧ PySem.W.Sortable (ds.map toP) ∧ (∀ d ∈ ds, (toP d).depth ≤ 60) ∧ ds.length ≤ sizeLine
def srt (ds : List Da) : List Da := ds.mergeSort (PySem.W.dataLe false toP)
def sortD : DB := fun ds Q => ∃ x xs, ds = [x] ∧ x = .lst xs ∧ srtOk xs ∧ Q (.lst (srt xs))
theorem each_dv {K : PySem.W.Frag} {g : Option Addr} {H : Hp} : ∀ {xs : List V} {ds : List Da} {its : List Value}, DvAll K g H xs ds → Vals xs its → PySem.W.EachIs (fun u d => ∃ v, RelV v u ∧ Dv K g H v d) its ds
  | _, _, _, .nil, .nil => .nil
  | _, _, _, .cons a t, .cons b u => .cons ⟨_, b, a⟩ (each_dv t u)
theorem dv_each {K : PySem.W.Frag} {g : Option Addr} {H : Hp} : ∀ {its : List Value} {ds : List Da}, PySem.W.EachIs (fun u d => ∃ v, RelV v u ∧ Dv K g H v d) its ds → ∃ xs, Vals xs its ∧ DvAll K g H xs ds
  | _, _, .nil => ⟨[], .nil, .nil⟩
  | _, _, .cons ⟨v, a, b⟩ t => by
    obtain ⟨xs, h1, h2⟩ := dv_each t
    exact ⟨v :: xs, .cons a h1, .cons b h2⟩
theorem readsAll_toP {h : Heap} : ∀ {ds : List Da} {vs : List Value} {as : List Addr}, ReadsAll h vs (toPs ds) as → PySem.W.EachIs (fun v d => ∃ as, Reads h v (toP d) as) vs ds
  | [], _, _, r => by rw [toPs] at r; cases r; exact .nil
  | d :: ds, _, _, r => by
    rw [toPs] at r
    cases r with
    | cons h1 h2 => exact .cons ⟨_, h1⟩ (readsAll_toP h2)
/-- sorted, by values -/
def rSortD (K : PySem.W.Frag) : List V → Hp → VK → Prop := fun vs H Q => ∃ (g : Option Addr) (Hh : Hp) (a : Addr) (xs : List V) (ds : List Da), vs = [.ref a] ∧ Sm Hh H ∧ H a = some (.lst xs) ∧ DvAll K g Hh xs ds ∧ srtOk ds ∧ ∀ ys p, DvAll K g Hh ys (srt ds) → H p = none → Q (.ref p) (upd H p (.lst ys))
theorem cr_sortD {k : Nat} (hr : Room k X.A) : CallR X (.builtin "sorted") (rSortD X.K) := by
  intro pins s σ H vs us Q I r h
  obtain ⟨g, Hh, a, xs, ds, rfl, sm, ha, dv, ⟨c1, c2, c3, c4, c5⟩, q⟩ := h
  obtain ⟨its, rv, hl, hz⟩ := I.list (SqL.of ha)
  rw [Vals.ref1 r]
  have dvH : DvAll X.K g H xs ds := DvAll.mono sm _ _ dv
  obtain ⟨as, ra⟩ := Dp.readsAll I (toPs ds) xs its (DvAll.dp ds xs dvH c1) rv
  refine PySem.W.sorted_data (β := Da) (enc := toP) (R := fun u d => ∃ v, RelV v u ∧ Dv X.K g Hh v d) hl.isList (each_dv dv rv) (readsAll_toP ra) c2 c3 c5 (fun d hd => ?_) (fun out h1 h2 => ?_)
  · have := hr.un
    have := c4 d hd
    omega
  · obtain ⟨ys, y1, y2⟩ := dv_each h2
    obtain ⟨ep, he'⟩ := PyProof.Rows.sortedAll_at s.heap its out.toArray
    have hlen : ys.length ≤ sizeLine := by rw [y1.length, h1]; exact c5
    have new : ObjOk X.prog X.w (upd H (s.heap.objs.size + 1) (.lst ys)) (sortedAll s.heap its out.toArray) (s.heap.objs.size + 1) (.lst ys) := ⟨hlen, out, ep, y1, he'⟩
    exact ⟨.ref _, _, I.laid (t' := s.toks) (fun _ _ => PyProof.Rows.sortedAll_old) (Nat.le_succ _) new, rfl, q ys _ y2 (I.hok.fresh (Nat.le_succ _))⟩
theorem ped_sorted {k : Nat} (hr : Room k X.A) (hm : X.mg "sorted" = none) (args : PAd X w (e :: es) t) (hg : Gl X "sorted" := by rfl) (he : starEach (e :: es) X.env = (false, eval e X.env) :: starEach es X.env := by rfl) (hpl : (backTo pos (starEach es X.env)).any (·.1) = false := by rfl) :
    PEd X w (.Call (.Name "sorted" p) (e :: es) [] pos) (dCall sortD t) := by
  refine ped_callB (cr_sortD hr) (fun ds Q Q' q ⟨x, xs, a, b, c, h⟩ => ⟨x, xs, a, b, c, q _ h⟩) ?_ hm (by decide +kernel) args hg (by decide) (by decide) he hpl
  rintro g W H vs ds Q k dv ⟨x, xs, rfl, rfl, c, h⟩
  obtain ⟨v, rfl, dx⟩ := dv.one
  cases dx with
  | lst a1 a2 =>
    exact ⟨g, hid W H, _, _, xs, rfl, hid_sub, (hid_some a1).2, a2, c, fun ys p dy np => h.newL k np dy⟩

/-! ### repr -/
def shwOk (x : Da) : Prop := canP x = true ∧ (toP x).showable = true ∧ (toP x).depth ≤ 60 ∧ (toP x).shown.length ≤ sizeLine
def reprD : DB := fun ds Q => ∃ x, ds = [x] ∧ shwOk x ∧ Q (.str (toP x).shown)
mutual
theorem noDict_toP : ∀ d : Da, canP d = true → (toP d).hasDict = false
  | .non, _ => by rw [toP, PyData.hasDict]
  | .bl _, _ => by rw [toP, PyData.hasDict]
  | .int _, _ => by rw [toP, PyData.hasDict]
  | .str _, _ => by rw [toP, PyData.hasDict]
  | .lst xs, h => by rw [toP, PyData.hasDict]; rw [canP] at h; exact noDict_toPs xs h
  | .tup xs, h => by rw [toP, PyData.hasDict]; rw [canP] at h; exact noDict_toPs xs h
  | .tpw xs, h => by rw [toP, PyData.hasDict]; rw [canP] at h; exact noDict_toPs xs h
  | .dct _, h => by rw [canP] at h; cases h
  | .bag, h => by rw [canP] at h; cases h
  | .raw _, h => by rw [canP] at h; cases h
  | .fix _, h => by rw [canP] at h; cases h
theorem noDict_toPs : ∀ ds : List Da, canPs ds = true → PyData.hasDictAll (toPs ds) = false
  | [], _ => by rw [toPs, PyData.hasDictAll]
  | d :: ds, h => by
    rw [canPs, Bool.and_eq_true] at h
    rw [toPs, PyData.hasDictAll, noDict_toP d h.1, noDict_toPs ds h.2]
    rfl
end
def rReprD (K : PySem.W.Frag) : List V → Hp → VK → Prop := fun vs H Q => ∃ v d, vs = [v] ∧ Dp K H v d ∧ d.showable = true ∧ d.hasDict = false ∧ d.depth ≤ 60 ∧ d.shown.length ≤ sizeLine ∧ Q (.str d.shown) H
theorem cr_reprD {k : Nat} (hr : Room k X.A) (hG : X.A.guards = some []) : CallR X (.builtin "repr") (rReprD X.K) := by
  intro pins s σ H vs us Q I r h
  obtain ⟨v, d, rfl, dp, hs, hn, hd, hz, q⟩ := h
  obtain ⟨u, rfl, ru⟩ := vals1 r
  obtain ⟨as, rd⟩ := Dp.reads I d v u dp ru
  have un := hr.un
  have refs : ∀ a : Addr, u = .ref a → wpAny (model X.prog X.w) X.A (call (.builtin "repr") [u]) (EP X pins σ Q) X.xe s := by
    rintro a rfl
    refine repr_of_reads' (h₀ := s.heap) rd hs (PyData.noDict_hsm hn) hG (by omega) (fun _ _ e => e) (fun h' u' tk hk => ?_) hz
    exact ⟨.str d.shown, H, I.kept hk, ⟨u', rfl⟩, q⟩
  have fin : ∀ (x : Str), x = d.shown → EP X pins σ Q (.str x s.toks) { s with toks := s.toks + 1 } := fun x e => ⟨.str d.shown, H, I.tok _, ⟨s.toks, by rw [e]⟩, q⟩
  cases rd with
  | none => exact PySem.P.repr_of_none (fin _ (by rw [PyData.shown]))
  | bool b => exact PySem.P.repr_of_bool (fin _ (by rw [PyData.shown]))
  | int i tk => exact PySem.P.repr_of_int (by rw [PyData.showable] at hs; exact of_decide_eq_true hs) (fin _ (by rw [PyData.shown]))
  | str x tk => exact PySem.P.repr_of_str (fin _ (by rw [PyData.shown])) (by rw [PyData.shown] at hz; exact hz)
  | list _ _ _ _ => exact refs _ rfl
  | tuple _ _ _ _ => exact refs _ rfl
  | dict _ _ _ _ _ => exact refs _ rfl
theorem ped_repr {k : Nat} (hr : Room k X.A) (hG : X.A.guards = some []) (hm : X.mg "repr" = none) (args : PAd X w (e :: es) t) (hg : Gl X "repr" := by rfl) (he : starEach (e :: es) X.env = (false, eval e X.env) :: starEach es X.env := by rfl) (hpl : (backTo pos (starEach es X.env)).any (·.1) = false := by rfl) :
    PEd X w (.Call (.Name "repr" p) (e :: es) [] pos) (dCall reprD t) := by
  refine ped_callB (cr_reprD hr hG) (fun ds Q Q' q ⟨x, a, b, h⟩ => ⟨x, a, b, q _ h⟩) ?_ hm (by decide +kernel) args hg (by decide) (by decide) he hpl
  rintro g W H vs ds Q k dv ⟨x, rfl, ⟨c1, c2, c3, c4⟩, h⟩
  obtain ⟨v, rfl, dx⟩ := dv.one
  exact ⟨v, toP x, rfl, Dv.dp x v (Dv.mono hid_sub _ _ dx) c1, c2, noDict_toP x c1, c3, c4, h.now k (.str _)⟩
end
end Pd
/-! Slices, dicts, count. -/
namespace Pd
open PySem PySem.Spec PyProof.Rows L2

/-! ### slices -/
def cutD (xs : List Da) (lo hi : Option Int) : List Da := (xs.drop (HT.sIx xs.length 0 lo)).take (HT.sIx xs.length xs.length hi - HT.sIx xs.length 0 lo)
theorem DvAll.cut {K : PySem.W.Frag} {g : Option Addr} {H : Hp} {xs : List V} {ds : List Da} (h : DvAll K g H xs ds) (lo hi : Option Int) : DvAll K g H (cutV xs lo hi) (cutD ds lo hi) := by
  unfold cutV cutD
  rw [h.len]
  exact (h.dr _).tk _
theorem cutV_all {xs : List V} {lo hi : Option Int} (h1 : HT.sIx xs.length 0 lo = 0) (h2 : HT.sIx xs.length xs.length hi = xs.length) : cutV xs lo hi = xs := by
  unfold cutV
  rw [h1, h2, List.drop_zero, Nat.sub_zero, List.take_length]
abbrev TDO := En → (Option Int → Prop) → Prop
def liO (K : PySem.W.Frag) (w : Wd) (t : TDO) : TO := fun σ H Q => ∃ W own r, Stt K w W own r σ H ∧ t r fun o => ∀ H', Ext w.g H H' → OkW K w.g W H' → Q o H'
structure POd (X : Cx) (w : Wd) (o : Option Expr) (t : TDO) : Prop where
  po : PO X o (liO X.K w t)
  mo : ∀ r Q Q', (∀ b, Q b → Q' b) → t r Q → t r Q'
section
variable {X : Cx} {w : Wd} {e a : Expr} {es : List Expr} {p pos p2 : Pos} {te ty : TDE}
def dNoP : TDO := fun _ Q => Q none
def dPart (t : TDE) : TDO := fun r Q => t r fun d => ∃ i, d = .int i ∧ Q (some i)
theorem pod_none : POd X w none dNoP := by
  refine ⟨⟨fun pins s σ H Q I h => po_none.run pins s σ H Q I ?_⟩, fun r Q Q' q h => q _ h⟩
  obtain ⟨W, own, r, S, h⟩ := h
  exact h H Ext.refl S.ok
theorem pod_some (h : PEd X w e te) : POd X w (some e) (dPart te) := by
  refine ⟨⟨fun pins s σ H Q I q => (po_some h.pe).run pins s σ H Q I ?_⟩, fun r Q Q' q z => h.mo _ _ _ (fun d ⟨i, a, b⟩ => ⟨i, a, q _ b⟩) z⟩
  obtain ⟨W, own, r, S, q⟩ := q
  refine go1 h S q fun x v H1 e1 k1 d1 z => ?_
  obtain ⟨i, rfl, z⟩ := z
  cases d1
  exact ⟨i, rfl, z H1 e1 k1⟩
def slD (x : Da) (lo hi : Option Int) (Q : Da → Prop) : Prop := match x with
  | .lst xs => Q (.lst (cutD xs lo hi))
  | .tup xs => Q (.tup (cutD xs lo hi))
  | .str z => z.length ≤ sizeLine ∧ Q (.str (cutS z lo hi))
  | _ => False
theorem slD_mo {x : Da} {lo hi : Option Int} {Q Q' : Da → Prop} (q : ∀ d, Q d → Q' d) (h : slD x lo hi Q) : slD x lo hi Q' := by
  unfold slD at h ⊢
  split at h
  · exact q _ h
  · exact q _ h
  · exact ⟨h.1, q _ h.2⟩
  · exact h.elim
/-- a slice of a tuple, its object told -/
def rSlT2 (K : PySem.W.Frag) : V → Option Int → Option Int → Hp → VK → Prop := fun x lo hi H Q => ∃ a xs, x = .ref a ∧ SqT K H a xs ∧
  (HT.sIx xs.length 0 lo = 0 ∧ HT.sIx xs.length xs.length hi = xs.length → Q (.ref a) H) ∧ NewT (cutV xs lo hi) H Q
theorem sl_tup2 : SlR X (rSlT2 X.K) := by
  intro pins s σ H x v vl vu lo hi sl Q I rx hs pl pu h
  obtain ⟨c, xs, rfl, hx, q1, q2⟩ := h
  cases rx
  obtain ⟨its, r, ht, hz⟩ := I.tuple hx
  have hlen : its.toArray.size = xs.length := by rw [List.size_toArray]; exact r.length.symm
  refine ⟨"tuple", _, PyProof.Rows.slot_tuple_getitem.lookup, ht.typeIs, ?_⟩
  by_cases hw : HT.sIx xs.length 0 lo = 0 ∧ HT.sIx xs.length xs.length hi = xs.length
  · exact getItem_tuple_whole ht hs pl pu (by rw [hlen]; exact hw) ⟨.ref c, H, I, rfl, q1 hw⟩
  · refine HT.getItem_tuple_cut ht hs pl pu (by rw [hlen]; exact hw) ?_ (by rw [hlen]; exact hz)
    rw [hlen]
    have rc : Vals (cutV xs lo hi) ((its.drop (HT.sIx xs.length 0 lo)).take (HT.sIx xs.length xs.length hi - HT.sIx xs.length 0 lo)) := (r.drop _).take _
    exact new_tup I rc (Nat.le_trans (cutV_length xs lo hi) hz) q2
def dSl (t : TDE) (lo hi : TDO) : TDE := fun r Q => t r fun x => lo r fun l => hi r fun u => slD x l u Q
theorem ped_slice {l h : Option Expr} {tl th : TDO} (he : PEd X w e te) (hl : POd X w l tl) (hh : POd X w h th) : PEd X w (.Subscript e (.Slice l h none p2) pos) (dSl te tl th) := by
  refine ⟨weE (pe_slice ((sl_list.or sl_tup2).or sl_str) he.pe hl.po hh.po) ?_, fun r Q Q' q z => he.mo _ _ _ (fun x => hl.mo _ _ _ fun i => hh.mo _ _ _ fun j => slD_mo q) z⟩
  rintro σ H Q ⟨W, own, r, S, z⟩
  refine go1 he S z fun x v H1 e1 k1 d1 z => ?_
  refine ⟨W, own, r, S.ext e1 k1, hl.mo _ _ _ (fun i z H2 e2 k2 => ?_) z⟩
  refine ⟨W, own, r, (S.ext e1 k1).ext e2 k2, hh.mo _ _ _ (fun j z H3 e3 k3 => ?_) z⟩
  have dx : Dv X.K w.g (hid W H3) v x := Dv.mono ((e2.trans e3).hid k1.gW) _ _ d1
  have z' : slD x i j (Aft X.K w.g W H3 Q) := slD_mo (fun d q => q.then (e1.trans (e2.trans e3))) z
  unfold slD at z'
  split at z'
  · cases dx with
    | lst a1 a2 => exact .inl (.inl ⟨_, _, rfl, SqL.of (hid_some a1).2, fun p np => z'.newL k3 np (a2.cut i j)⟩)
  · cases dx with
    | tup a1 a2 =>
      refine .inl (.inr ⟨_, _, rfl, sq_hid a1.sq, fun hw => ?_, z'.newT k3 (a2.cut i j)⟩)
      have e0 := cutV_all hw.1 hw.2
      have a3 := a2.cut i j
      rw [e0] at a3
      exact z'.now k3 (.tup a1 a3)
  · cases dx
    exact .inr ⟨_, rfl, z'.1, z'.2.now k3 (.str _)⟩
  · exact z'.elim

/-! ### dicts -/
def kD : Key → Da
  | .inl i => .int i
  | .inr x => .str x
def valD (kvs : List (Key × Da)) (k : Key) : Option Da := (kvs.find? fun kv => decide (kv.1 = k)).map (·.2)
def putD (kvs : List (Key × Da)) (k : Key) (v : Da) : List (Key × Da) :=
  if (kvs.any fun kv => decide (kv.1 = k)) = true then kvs.map (fun kv => if kv.1 = k then (kv.1, v) else kv) else kvs ++ [(k, v)]
def mergeD (kvs more : List (Key × Da)) : List (Key × Da) := more.foldl (fun acc kv => putD acc kv.1 kv.2) kvs
theorem KvAll.val {K : PySem.W.Frag} {g : Option Addr} {H : Hp} {k : Key} : ∀ {kvs : List (Key × V)} {ds : List (Key × Da)} {d : Da}, KvAll K g H kvs ds → valD ds k = some d → ∃ v, valV kvs k = some v ∧ Dv K g H v d
  | _, _, _, .nil, h => by cases h
  | _, _, d, .cons (k := k') (v := v) (vs := vs) (d := d') (ds := ds) a t, h => by
    by_cases e : k' = k
    · have : valD ((k', d') :: ds) k = some d' := by simp [valD, List.find?_cons, e]
      rw [this] at h
      cases h
      exact ⟨v, valV_pos e, a⟩
    · have : valD ((k', d') :: ds) k = valD ds k := by simp [valD, List.find?_cons, e]
      rw [this] at h
      obtain ⟨u, h1, h2⟩ := t.val h
      exact ⟨u, by rw [valV_neg e]; exact h1, h2⟩
theorem KvAll.app {K : PySem.W.Frag} {g : Option Addr} {H : Hp} : ∀ {kvs xs : List (Key × V)} {ds es : List (Key × Da)}, KvAll K g H kvs ds → KvAll K g H xs es → KvAll K g H (kvs ++ xs) (ds ++ es)
  | _, _, _, _, .nil, q => q
  | _, _, _, _, .cons a t, q => .cons a (t.app q)
theorem KvAll.anyK {K : PySem.W.Frag} {g : Option Addr} {H : Hp} {k : Key} : ∀ {kvs : List (Key × V)} {ds : List (Key × Da)}, KvAll K g H kvs ds → (kvs.any fun kv => decide (kv.1 = k)) = ds.any fun kv => decide (kv.1 = k)
  | _, _, .nil => rfl
  | _, _, .cons a t => by rw [List.any_cons, List.any_cons, t.anyK]
theorem KvAll.mapPut {K : PySem.W.Frag} {g : Option Addr} {H : Hp} {k : Key} {v : V} {d : Da} : ∀ {kvs : List (Key × V)} {ds : List (Key × Da)}, KvAll K g H kvs ds → Dv K g H v d →
    KvAll K g H (kvs.map fun kv => if kv.1 = k then (kv.1, v) else kv) (ds.map fun kv => if kv.1 = k then (kv.1, d) else kv)
  | _, _, .nil, _ => .nil
  | _, _, .cons (k := k') a t, dv => by
    rw [List.map_cons, List.map_cons]
    by_cases e : k' = k
    · rw [if_pos e, if_pos e]; exact .cons dv (t.mapPut dv)
    · rw [if_neg e, if_neg e]; exact .cons a (t.mapPut dv)
theorem KvAll.put {K : PySem.W.Frag} {g : Option Addr} {H : Hp} {k : Key} {v : V} {d : Da} {kvs : List (Key × V)} {ds : List (Key × Da)} (h : KvAll K g H kvs ds) (dv : Dv K g H v d) : KvAll K g H (putK kvs k v) (putD ds k d) := by
  unfold putK putD
  rw [h.anyK]
  by_cases q : (ds.any fun kv => decide (kv.1 = k)) = true
  · rw [if_pos q, if_pos q]
    exact h.mapPut dv
  · rw [if_neg q, if_neg q]
    exact h.app (.cons dv .nil)
theorem KvAll.merge {K : PySem.W.Frag} {g : Option Addr} {H : Hp} : ∀ {xs : List (Key × V)} {es : List (Key × Da)} {kvs : List (Key × V)} {ds : List (Key × Da)}, KvAll K g H kvs ds → KvAll K g H xs es → KvAll K g H (mergeK kvs xs) (mergeD ds es)
  | _, _, _, _, h, .nil => h
  | _, _, _, _, h, .cons a t => by
    unfold mergeK mergeD
    rw [List.foldl_cons, List.foldl_cons]
    exact KvAll.merge (h.put a) t
/-- d[k] -/
def dgetD : DD := fun x y Q => ∃ kvs k d, x = .dct kvs ∧ y = kD k ∧ valD kvs k = some d ∧ Q d
theorem kD_v {K : PySem.W.Frag} {g : Option Addr} {H : Hp} {v : V} {k : Key} (h : Dv K g H v (kD k)) : v = kV k := by
  cases k with
  | inl i => cases h; rfl
  | inr x => cases h; rfl
theorem ped_dget {k : Nat} (hr : Room k X.A) (ha : PEd X w a te) (hb : PEd X w e ty) (hs : NoSl e := by exact fun _ _ => rfl) : PEd X w (.Subscript a e pos) (dOp dgetD te ty) := by
  refine ⟨weE (pe_dget (hu_of hr) ha.pe hb.pe hs) ?_, dOp_mo (fun x y Q Q' q ⟨kvs, k, d, a, b, c, z⟩ => ⟨kvs, k, d, a, b, c, q _ z⟩) ha hb⟩
  rintro σ H Q ⟨W, own, r, S, h⟩
  refine go2 ha hb S h fun x y v u H1 e1 k1 d1 d2 p => ?_
  obtain ⟨kvs, k, d, rfl, rfl, hv, z⟩ := p
  cases d1 with
  | @dct c us _ a1 a2 =>
    obtain ⟨v', h1, h2⟩ := a2.val hv
    rw [kD_v d2]
    refine ⟨c, v', rfl, ?_, (z.then e1).now k1 h2⟩
    rw [← h1]
    exact DGet.k (hid_some a1).2
/-- dict(a list of pairs) -/
def dictD : DB := fun ds Q => ∃ kvs : List (Key × Da), ds = [.lst (kvs.map fun kv => .tup [kD kv.1, kv.2])] ∧ Q (.dct (mergeD [] kvs))
theorem pairs_in {K : PySem.W.Frag} {g : Option Addr} {Hh H : Hp} (sm : Sm Hh H) : ∀ {kvs : List (Key × Da)} {xs : List V}, DvAll K g Hh xs (kvs.map fun kv => .tup [kD kv.1, kv.2]) → ∃ (ps : List Addr) (us : List (Key × V)), xs = ps.map V.ref ∧ Paired (fun p kv => SqT K H p [kV kv.1, kv.2]) ps us ∧ KvAll K g Hh us kvs
  | [], _, h => by cases h; exact ⟨[], [], rfl, .nil, .nil⟩
  | kv :: kvs, _, h => by
    cases h with
    | cons a t =>
      obtain ⟨ps, us, rfl, h2, h3⟩ := pairs_in sm t
      cases a with
      | @tup c ys _ b1 b2 =>
        obtain ⟨v1, v2, rfl, c1, c2⟩ := b2.two
        rw [kD_v c1] at b1
        exact ⟨c :: ps, (kv.1, v2) :: us, rfl, .cons (sqt_mono sm b1.sq) h2, .cons c2 h3⟩
theorem ped_dict {t : TDA} (hm : X.mg "dict" = none) (args : PAd X w (e :: es) t) (hc : X.calm = true := by rfl) (hg : Gl X "dict" := by rfl) (he : starEach (e :: es) X.env = (false, eval e X.env) :: starEach es X.env := by rfl) (hpl : (backTo pos (starEach es X.env)).any (·.1) = false := by rfl) :
    PEd X w (.Call (.Name "dict" p) (e :: es) [] pos) (dCall dictD t) := by
  refine ped_callTy (call_dictP hc) (fun ds Q Q' q ⟨x, a, h⟩ => ⟨x, a, q _ h⟩) ?_ hm (by decide +kernel) args hg (by decide) (by decide) he hpl
  rintro g W H vs ds Q k dv ⟨kvs, rfl, h⟩
  obtain ⟨v, rfl, dx⟩ := dv.one
  cases dx with
  | lst a1 a2 =>
    obtain ⟨ps, us, rfl, h2, h3⟩ := pairs_in (H := H) hid_sub a2
    refine ⟨_, ps, us, rfl, SqL.of (hid_some a1).2, h2, fun q nq => ?_⟩
    obtain ⟨e1, k1, s1, q1⟩ := k.new (o := .dK (mergeK [] us)) nq
    exact h _ _ e1 k1 (.dct q1 (KvAll.mono s1 _ _ (KvAll.merge .nil h3)))

/-! ### t.count(x) -/
mutual
theorem plain_toP : ∀ d : Da, canP d = true → (toP d).plain = true
  | .non, _ => by rw [toP, PyData.plain]
  | .bl _, _ => by rw [toP, PyData.plain]
  | .int _, _ => by rw [toP, PyData.plain]
  | .str _, _ => by rw [toP, PyData.plain]
  | .lst xs, h => by rw [toP, PyData.plain]; rw [canP] at h; exact plain_toPs xs h
  | .tup xs, h => by rw [toP, PyData.plain]; rw [canP] at h; exact plain_toPs xs h
  | .tpw xs, h => by rw [toP, PyData.plain]; rw [canP] at h; exact plain_toPs xs h
  | .dct _, h => by rw [canP] at h; cases h
  | .bag, h => by rw [canP] at h; cases h
  | .raw _, h => by rw [canP] at h; cases h
  | .fix _, h => by rw [canP] at h; cases h
theorem plain_toPs : ∀ ds : List Da, canPs ds = true → PyData.plainAll (toPs ds) = true
  | [], _ => by rw [toPs, PyData.plainAll]
  | d :: ds, h => by
    rw [canPs, Bool.and_eq_true] at h
    rw [toPs, PyData.plainAll, plain_toP d h.1, plain_toPs ds h.2]
    rfl
end
def dCnt (ta tb : TDE) : TDE := fun r Q => ta r fun x => ∃ xs, x = .tup xs ∧ canPs xs = true ∧ PyData.depthAll (toPs xs) ≤ 60 ∧ tb r fun y => canP y = true ∧ Q (.int (((toPs xs).countP fun d => PyData.eqv d (toP y) : Nat) : Int))
def tCnt (K : PySem.W.Frag) (ta tb : TE) : TE := fun σ H Q => ta σ H fun x H1 => ∃ (p : Addr) (xs : List V) (ds : List PyData), x = .ref p ∧ TupS K H1 p xs ∧ DpAll K H1 xs ds ∧ PyData.plainAll ds = true ∧ PyData.depthAll ds ≤ 60 ∧ tb σ H1 fun y H2 =>
  TupS K H2 p xs ∧ DpAll K H2 xs ds ∧ ∃ d, Dp K H2 y d ∧ d.plain = true ∧ Q (.int ((ds.countP fun z => PyData.eqv z d : Nat) : Int)) H2
theorem tups_obj {pins : List (Addr × Obj)} {σ : L2.St} {H : Hp} {s : Shared} {p : Addr} {xs : List V} (I : Inv X pins σ H s) (h : TupS X.K H p xs) : ∃ o, s.heap.get? p = some o ∧ o.dict = none := by
  rcases h with ⟨o, h, n⟩ | ⟨o, its, n, h1, _, h2, _⟩
  · exact ⟨o, (I.hok p _ h).1, n⟩
  · exact ⟨o, I.kIn p o h1, h2⟩
theorem pe_cnt {apos : Pos} {k : Nat} (hr : Room k X.A) {ta tb : TE} (ha : PE X a ta) (hb : PE X e tb) (hbase : attributeBase a "count" X.env (eval a X.env) = eval a X.env := by rfl)
    (hfew : ((backTo pos (starEach [e] X.env)).all (fun x => !x.1) && (backToKw pos (keywordEach [] X.env)).all (fun x => x.1.isSome) && decide ([e].length + ([] : List Keyword).length + (if ([] : List Keyword).isEmpty then 0 else 1) < 30)) = true := by rfl)
    (hline : (apos.endLine == pos.line) = true := by rfl) (hs : starEach (e :: []) X.env = (false, eval e X.env) :: starEach [] X.env := by rfl) (hpl : (backTo pos (starEach [] X.env)).any (·.1) = false := by rfl) :
    PE X (.Call (.Attribute a "count" apos) [e] [] pos) (tCnt X.K ta tb) := by
  constructor
  intro pins s σ H Q I h
  refine wpAny_Call_method_late hbase hfew hline rfl (thn (ha.run pins s σ H _ I h) ?_)
  rintro v s1 ⟨x, H1, I1, r1, q, xs, ds, rfl, ht, hd, hp, hdep, q1⟩
  cases r1
  obtain ⟨o, ho, hn⟩ := tups_obj I1 ht
  obtain ⟨its, rv, pl, hz⟩ := I1.tuple ht.sq
  refine ⟨"tuple", "tuple.count", PySem.F.plainAttrs_tuple, PySem.F.slot_tuple_count, PySem.F.type_tuple_count, pl.typeIs, fun c ec => ?_, ?_⟩
  · cases ec
    exact ⟨o, ho, hn⟩
  · have run := (pa_cons hb pa_nil hs).run pos pins s1 σ H1 (fun ys H2 => ∃ y, ys = [y] ∧ TupS X.K H2 q xs ∧ DpAll X.K H2 xs ds ∧ ∃ d, Dp X.K H2 y d ∧ d.plain = true ∧ Q (.int ((ds.countP fun z => PyData.eqv z d : Nat) : Int)) H2) I1
    have mono : tCons tb tNil σ H1 (fun ys H2 => ∃ y, ys = [y] ∧ TupS X.K H2 q xs ∧ DpAll X.K H2 xs ds ∧ ∃ d, Dp X.K H2 y d ∧ d.plain = true ∧ Q (.int ((ds.countP fun z => PyData.eqv z d : Nat) : Int)) H2) := by
      show tb σ H1 fun y H2 => ∃ y', [y] = [y'] ∧ _
      have : (fun (y : V) (H2 : Hp) => ∃ y', [y] = [y'] ∧ TupS X.K H2 q xs ∧ DpAll X.K H2 xs ds ∧ ∃ d, Dp X.K H2 y' d ∧ d.plain = true ∧ Q (.int ((ds.countP fun z => PyData.eqv z d : Nat) : Int)) H2) = fun y H2 => TupS X.K H2 q xs ∧ DpAll X.K H2 xs ds ∧ ∃ d, Dp X.K H2 y d ∧ d.plain = true ∧ Q (.int ((ds.countP fun z => PyData.eqv z d : Nat) : Int)) H2 := by
        funext y H2
        apply propext
        constructor
        · rintro ⟨y', e, z⟩
          cases e
          exact z
        · intro z
          exact ⟨y, rfl, z⟩
      rw [this]
      exact q1
    have run := run mono
    rw [hs] at run ⊢
    refine Calls.callWith_builtin (by show (false || (backTo pos (starEach [] X.env)).any (·.1)) = false; rw [hpl]; rfl) (Calls.evalArgs_plain (thn run ?_))
    rintro us s2 ⟨vs, H2, I2, r2, y, rfl, ht2, hd2, d, dy, dp, z⟩
    obtain ⟨u, rfl, ru⟩ := vals1 r2
    obtain ⟨its2, rv2, pl2, _⟩ := I2.tuple ht2.sq
    obtain ⟨as, ra⟩ := Dp.readsAll I2 ds xs its2 hd2 rv2
    obtain ⟨bs, rb⟩ := Dp.reads I2 d y u dy ru
    have un := hr.un
    refine PySem.SeqAt.count_tuple_data (xs := ds) (d := d) pl2 ra rb hp dp (by have : min (PyData.depthAll ds) d.depth ≤ PyData.depthAll ds := Nat.min_le_left _ _; omega) ?_
    exact ⟨.int _, H2, I2.tok _, ⟨_, rfl⟩, z⟩
theorem ped_count {apos : Pos} {k : Nat} (hr : Room k X.A) (ha : PEd X w a te) (hb : PEd X w e ty) (hbase : attributeBase a "count" X.env (eval a X.env) = eval a X.env := by rfl)
    (hfew : ((backTo pos (starEach [e] X.env)).all (fun x => !x.1) && (backToKw pos (keywordEach [] X.env)).all (fun x => x.1.isSome) && decide ([e].length + ([] : List Keyword).length + (if ([] : List Keyword).isEmpty then 0 else 1) < 30)) = true := by rfl)
    (hline : (apos.endLine == pos.line) = true := by rfl) (hs : starEach (e :: []) X.env = (false, eval e X.env) :: starEach [] X.env := by rfl) (hpl : (backTo pos (starEach [] X.env)).any (·.1) = false := by rfl) :
    PEd X w (.Call (.Attribute a "count" apos) [e] [] pos) (dCnt te ty) := by
  refine ⟨weE (pe_cnt hr ha.pe hb.pe hbase hfew hline hs hpl) ?_, fun r Q Q' q h => ha.mo _ _ _ (fun x ⟨xs, a, b, c, z⟩ => ⟨xs, a, b, c, hb.mo _ _ _ (fun y ⟨a, z⟩ => ⟨a, q _ z⟩) z⟩) h⟩
  rintro σ H Q ⟨W, own, r, S, h⟩
  refine go1 ha S h fun x v H1 e1 k1 d1 z => ?_
  obtain ⟨xs, rfl, c1, c2, z⟩ := z
  cases d1 with
  | @tup q us _ a1 a2 =>
    have up : ∀ {H2 : Hp}, Ext w.g H1 H2 → TupS X.K H2 q us ∧ DpAll X.K H2 us (toPs xs) := fun {H2} e2 => by
      have s2 := e2.hid k1.gW
      exact ⟨tups_mono hid_sub (tups_mono s2 a1), DvAll.dp xs us (DvAll.mono hid_sub _ _ (DvAll.mono s2 _ _ a2)) c1⟩
    refine ⟨q, us, toPs xs, rfl, (up Ext.refl).1, (up Ext.refl).2, plain_toPs xs c1, c2, go1 hb (S.ext e1 k1) z fun y u H2 e2 k2 d2 z2 => ?_⟩
    exact ⟨(up e2).1, (up e2).2, toP y, Dv.dp y u (Dv.mono hid_sub _ _ d2) z2.1, plain_toP y z2.1, (z2.2.then (e1.trans e2)).now k2 (.int _)⟩
end
end Pd
/-! Where a def stands; its promise by its name; a law's own bag and draws. -/
namespace Pd
open PySem PySem.Spec PyProof.Rows L2

/-- a def of the text, by its name -/
structure DefAt (K : PySem.W.Frag) (mg : Str → Option Value) (x : Str) (st : Stmt) (ps : List Str) : Prop where
  ex : ∃ f fd, Fun K x x st f fd ∧ mg x = some (.ref f) ∧ Binds K fd ps []
/-- a def whose promise is known -/
structure Calld (P : Program) (wd : World) (K : PySem.W.Frag) (mg : Str → Option Value) (base : Heap) (k : Nat) (x : Str) (ps : List Str) (p : DSp) : Prop where
  ex : ∃ f fd, FnG P wd K mg base CX0 k f fd ps (liP K p) ∧ mg x = some (.ref f) ∧ PySem.W.keepIn K (.ref f) = true ∧ Binds K fd ps []
  mp : MoP p
theorem Calld.up {P : Program} {wd : World} {K : PySem.W.Frag} {mg : Str → Option Value} {base : Heap} {j k : Nat} {x : Str} {ps : List Str} {p : DSp} (c : Calld P wd K mg base j x ps p) (h : j ≤ k) : Calld P wd K mg base k x ps p := by
  obtain ⟨⟨f, fd, F, a, b, d⟩, mp⟩ := c
  exact ⟨⟨f, fd, F.up h, a, b, d⟩, mp⟩
section
variable {X : Cx} {w : Wd}
theorem ped_f {x : Str} {p pos : Pos} {k : Nat} {ps : List Str} {sp : DSp} {t : TDA} {e : Expr} {es : List Expr} (c : Calld X.prog X.w X.K X.mg X.base k x ps sp) (room : Room k X.A) (hG : X.A.guards = some []) (args : PAd X w (e :: es) t) (gl : Gl X x := by rfl) (nd : (x == ("__debug__" : Str)) = false := by decide)
    (st : starEach (e :: es) X.env = (false, eval e X.env) :: starEach es X.env := by rfl) (bk : (backTo pos (starEach es X.env)).any (·.1) = false := by rfl) : PEd X w (.Call (.Name x p) (e :: es) [] pos) (dCall sp t) := by
  obtain ⟨⟨f, fd, F, a, b, d⟩, mp⟩ := c
  exact ped_call F mp room hG a b d args gl nd st bk
end
theorem defC {P : Program} {wd : World} {K : PySem.W.Frag} {mg : Str → Option Value} {base : Heap} {x : Str} {st : Stmt} {N ps : List Str} {k : Nat} {p : DSp} (At : DefAt K mg x st ps)
    (S : FnScope N ps (defScope st)) (len : ∀ ds Q, p ds Q → ds.length = ps.length) (mp : MoP p)
    (inside : ∀ (f : Addr) (cdv : Value) (A : Around) (outer : List Env) (s0 : Shared) (H : Hp) (E : XK) (w : Wd) (ds : List Da) (Q : Da → Prop), Room k (A.deeper (envOfC x (defScope st) s0.heap.objs.size f cdv)) → A.guards = some [] → p ds Q →
      ∃ t, PSsd (cxOf CX0 P wd K mg base N x (defScope st) f cdv A outer s0 H E).nox w (defBody st) t ∧ t { nx := fun _ => Q .non, rt := Q } (startD N ds)) :
    Calld P wd K mg base (k + 1) x ps p := by
  obtain ⟨f, fd, F, a, b⟩ := At.ex
  exact ⟨⟨f, fd, defD F S len mp (inside f), a, F.kp, b⟩, mp⟩

/-! ### the bag and a draw -/
section
variable {X : Cx}
theorem pget_list : PGet X (rIxL X.K) := by
  intro pins s σ H x y v u Q I rx ry h
  obtain ⟨p, xs, i, z, rfl, rfl, hq, he, q⟩ := h
  cases rx
  obtain ⟨t, rfl⟩ := ry
  obtain ⟨its, r, pl, hz⟩ := I.list hq
  obtain ⟨j, h1, h2, h3, h4, h5⟩ := atI_get he
  obtain ⟨w, ew, rw'⟩ := r.get h2
  have hl := r.length
  have hn := line63
  have fin : EP X pins σ Q w s := ⟨z, H, I, rw', q⟩
  by_cases h0 : 0 ≤ i
  · have hj : i.toNat = j := by
      have z1 := seqIndex_of h0 h5
      rw [z1] at h1
      cases h1
      rfl
    exact wpAny_getItem_list pl.isList h0 (by omega) (by rw [hj]; simpa using ew) fin
  · have hj : (i + (its.toArray.size : Int)).toNat = j := by
      have z1 := seqIndex_neg (by omega) h4
      rw [z1] at h1
      rw [List.size_toArray, ← hl]
      cases h1
      rfl
    exact wpAny_getItem_list_neg pl.isList (by omega) (by rw [List.size_toArray]; omega) (by omega) (by rw [hj]; simpa using ew) fin
end

/-- a draw: any integer from 0 to below many -/
def pTake : DSp := fun ds Q => ∃ n : Int, ds = [.bag, .int n] ∧ 0 < n ∧ n.natAbs.log2 < 9000 ∧ ∀ r, 0 ≤ r → r < n → Q (.int r)
theorem pTake_mo : MoP pTake := fun ds Q Q' q ⟨n, a, b, c, h⟩ => ⟨n, a, b, c, fun r h1 h2 => q _ (h r h1 h2)⟩
/-- the bag's places -/
def bagL (x y : Int) (z : Nat) (c : Addr) : HO := .lst [.int x, .int y, .int z, .ref c]
/-- in a draw: all but the bag is kept, the bag has its places -/
structure BagT (K : PySem.W.Frag) (H0 : Hp) (g c : Addr) (cs : List Int) (H : Hp) (x y : Int) (z : Nat) : Prop where
  keep : ∀ b o, b ≠ g → H0 b = some o → H b = some o
  at_g : H g = some (bagL x y z c)
  at_c : H c = some (.lst (cs.map V.int))
  ne : c ≠ g
theorem BagT.put {K : PySem.W.Frag} {H0 : Hp} {g c : Addr} {cs : List Int} {H : Hp} {x y : Int} {z : Nat} {x' y' : Int} {z' : Nat} (B : BagT K H0 g c cs H x y z) : BagT K H0 g c cs (upd H g (bagL x' y' z' c)) x' y' z' :=
  ⟨fun b o n h => by rw [upd_ne n]; exact B.keep b o n h, upd_same, by rw [upd_ne B.ne]; exact B.at_c, B.ne⟩
theorem at_nat {xs : List V} {j : Nat} {v : V} (h : xs[j]? = some v) {z : Int} (e : z = (j : Nat)) : atI xs z = some v := by
  rw [e]
  exact atI_nat h
theorem ix4 {n : Nat} {k : Int} {j : Nat} (e : k = (j : Nat)) (h : j < n) : ixN n k = some j := by
  subst e
  unfold ixN
  rw [if_pos (Int.natCast_nonneg j), if_pos (by omega)]
  simp
def NTake : List Str := ["_law_bag_here", "_law_many", "_law_cell", "_law_mixed", "_law_value", "_law_begin", "_law_second"]
theorem mul_ok {i j : Int} (h1 : 0 ≤ j) (h2 : j < 2 ^ 64) : CMul i j := .inr ⟨by omega, h2⟩
theorem mod_lt {i n : Int} (h : 0 < n) : 0 ≤ i % n ∧ i % n < n := ⟨Int.emod_nonneg _ (by omega), Int.emod_lt_of_pos _ h⟩

end Pd
/-! Reasoning about data readings: sizes, equal data, comprehensions as maps, loops by invariants. -/
namespace Pd
open PySem PySem.Spec PyProof.Rows L2

/-! ### sizes -/
structure Sz (d : Da) (n c : Nat) : Prop where
  can : canP d = true
  lay : (toP d).canLay0 = true
  shw : (toP d).showable = true
  dep : (toP d).depth ≤ n
  len : (toP d).shown.length ≤ c
theorem Sz.up {d : Da} {n c n' c' : Nat} (h : Sz d n c) (h1 : n ≤ n') (h2 : c ≤ c') : Sz d n' c' := ⟨h.can, h.lay, h.shw, Nat.le_trans h.dep h1, Nat.le_trans h.len h2⟩
theorem Sz.shp {d : Da} {n c : Nat} (h : Sz d n c) (hn : n ≤ 60) : shp d = true := by
  unfold Pd.shp SeqAt.shaped
  rw [h.can, h.lay, decide_eq_true (Nat.le_trans h.dep (Nat.le_trans hn (by decide)))]
  rfl
theorem Sz.ok {d : Da} {n c : Nat} (h : Sz d n c) (hn : n ≤ 60) (hc : c ≤ 16777216) : shwOk d := ⟨h.can, h.shw, Nat.le_trans h.dep hn, Nat.le_trans h.len (by rw [sizeLine_eq]; exact hc)⟩
theorem eqd_refl {d : Da} {n c : Nat} (h : Sz d n c) : eqd d d = true := PySem.SeqAt.eqv_refl _ h.lay
theorem sz_non : Sz .non 0 4 := ⟨by rw [canP], by rw [toP, PyData.canLay0], by rw [toP, PyData.showable], by rw [toP, PyData.depth]; exact Nat.le_refl _, by rw [toP, PyData.shown]; decide +kernel⟩
theorem sz_bl (b : Bool) : Sz (.bl b) 0 5 := by
  refine ⟨by rw [canP], by rw [toP, PyData.canLay0], by rw [toP, PyData.showable], by rw [toP, PyData.depth]; exact Nat.le_refl _, ?_⟩
  rw [toP, PyData.shown]
  cases b
  · decide +kernel
  · decide +kernel
theorem sz_int {i : Int} (h : i.natAbs.log2 < 1920) : Sz (.int i) 0 1921 := by
  refine ⟨by rw [canP], by rw [toP, PyData.canLay0], by rw [toP, PyData.showable]; exact decide_eq_true h, by rw [toP, PyData.depth]; exact Nat.le_refl _, ?_⟩
  rw [toP, PyData.shown]
  exact int_text_len_1921 h
theorem log2_of {i : Int} {k : Nat} (h : i.natAbs < 2 ^ k) (hk : 0 < k) : i.natAbs.log2 < k := by
  by_cases z : i.natAbs = 0
  · rw [z]; simpa using hk
  · exact (Nat.log2_lt z).mpr h
theorem sz_int' {i : Int} (h : -(2 ^ 400) < i) (h' : i < 2 ^ 400) : Sz (.int i) 0 1921 := sz_int (Nat.lt_trans (log2_of (k := 400) (by omega) (by decide)) (by decide))
theorem sz_str {x : Str} (h : ∀ c ∈ x.cps.toList, c < 128) : Sz (.str x) 0 (10 * x.length + 2) := by
  refine ⟨by rw [canP], ?_, by rw [toP, PyData.showable], by rw [toP, PyData.depth]; exact Nat.le_refl _, ?_⟩
  · rw [toP, PyData.canLay0]
    unfold PyData.strOk
    rw [← Array.all_toList, List.all_eq_true]
    intro c hc
    have := h c hc
    exact decide_eq_true (by omega)
  · rw [toP, PyData.shown]
    exact StrLaws.reprText_len x fun c hc => Nat.lt_trans (h c hc) (by decide)
theorem szs {ds : List Da} {n c : Nat} : (∀ d ∈ ds, Sz d n c) → canPs ds = true ∧ PyData.canLayAll0 (toPs ds) = true ∧ PyData.showableAll (toPs ds) = true ∧ PyData.depthAll (toPs ds) ≤ n ∧ ((PyData.shownAll (toPs ds)).map (·.length)).sum ≤ ds.length * c ∧ (PyData.shownAll (toPs ds)).length = ds.length := by
  induction ds with
  | nil => intro _; refine ⟨by rw [canPs], by rw [toPs, PyData.canLayAll0], by rw [toPs, PyData.showableAll], by rw [toPs, PyData.depthAll]; exact Nat.zero_le _, by rw [toPs, PyData.shownAll]; exact Nat.zero_le _, by rw [toPs, PyData.shownAll]; rfl⟩
  | cons d ds ih =>
    intro h
    obtain ⟨a1, a2, a3, a4, a5, a6⟩ := ih fun e he => h e (List.mem_cons_of_mem _ he)
    have hd := h d List.mem_cons_self
    refine ⟨by rw [canPs, hd.can, a1]; rfl, by rw [toPs, PyData.canLayAll0, hd.lay, a2]; rfl, by rw [toPs, PyData.showableAll, hd.shw, a3]; rfl, by rw [toPs, PyData.depthAll]; exact Nat.max_le.mpr ⟨hd.dep, a4⟩, ?_, by rw [toPs, PyData.shownAll, List.length_cons, List.length_cons, a6]⟩
    rw [toPs, PyData.shownAll, List.map_cons, List.sum_cons, List.length_cons, Nat.add_mul, Nat.one_mul]
    have := hd.len
    omega
theorem sz_lst {ds : List Da} {n c : Nat} (h : ∀ d ∈ ds, Sz d n c) : Sz (.lst ds) (n + 1) (ds.length * (c + 2) + 3) := by
  obtain ⟨a1, a2, a3, a4, a5, a6⟩ := szs h
  refine ⟨by rw [canP]; exact a1, by rw [toP, PyData.canLay0]; exact a2, by rw [toP, PyData.showable]; exact a3, by rw [toP, PyData.depth]; omega, ?_⟩
  rw [toP, PyData.shown]
  have q := listText_len_le (PyData.shownAll (toPs ds))
  rw [a6] at q
  rw [Nat.mul_add]
  omega
theorem sz_tup {ds : List Da} {n c : Nat} (h : ∀ d ∈ ds, Sz d n c) : Sz (.tup ds) (n + 1) (ds.length * (c + 2) + 3) := by
  obtain ⟨a1, a2, a3, a4, a5, a6⟩ := szs h
  refine ⟨by rw [canP]; exact a1, by rw [toP, PyData.canLay0]; exact a2, by rw [toP, PyData.showable]; exact a3, by rw [toP, PyData.depth]; omega, ?_⟩
  rw [toP, PyData.shown]
  have q := tupleText_len_le (PyData.shownAll (toPs ds))
  rw [a6] at q
  rw [Nat.mul_add]
  omega

/-! ### equal data -/
theorem eqd_int (i j : Int) : eqd (.int i) (.int j) = (i == j) := by unfold eqd; rw [toP, toP, PyData.eqv]
theorem eqd_str (i j : Str) : eqd (.str i) (.str j) = (i == j) := by unfold eqd; rw [toP, toP, PyData.eqv]
theorem eqd_bl (i j : Bool) : eqd (.bl i) (.bl j) = (i == j) := by unfold eqd; rw [toP, toP, PyData.eqv]
theorem shp_int (i : Int) : shp (.int i) = true := by unfold shp SeqAt.shaped; rw [canP, toP, PyData.canLay0, PyData.depth]; rfl
theorem shp_bl (i : Bool) : shp (.bl i) = true := by unfold shp SeqAt.shaped; rw [canP, toP, PyData.canLay0, PyData.depth]; rfl
theorem shp_unit : shp (.tup []) = true := by unfold shp SeqAt.shaped; rw [canP, toP, PyData.canLay0, PyData.depth, canPs, toPs, PyData.canLayAll0, PyData.depthAll]; rfl
theorem eqd_tupNil (xs : List Da) : eqd (.tup xs) (.tup []) = xs.isEmpty := by
  unfold eqd
  rw [toP, toP, PyData.eqv, toPs]
  cases xs with
  | nil => rw [toPs, PyData.eqvAll]; rfl
  | cons x xs => rw [toPs, PyData.eqvAll]; rfl

/-! ### comprehensions -/
theorem paired_len {α β : Type} {F : α → β → Prop} : ∀ {xs : List α} {ys : List β}, Paired F xs ys → xs.length = ys.length
  | _, _, .nil => rfl
  | _, _, .cons _ t => by rw [List.length_cons, List.length_cons, paired_len t]
theorem paired_at {α β : Type} {F : α → β → Prop} : ∀ {xs : List α} {ys : List β} {i : Nat} {y : β}, Paired F xs ys → ys[i]? = some y → ∃ x, xs[i]? = some x ∧ F x y
  | _, _, _, _, .nil, e => by cases e
  | _, _, 0, _, .cons h _, e => by cases e; exact ⟨_, rfl, h⟩
  | _, _, i + 1, _, .cons _ t, e => paired_at (i := i) t (by simpa using e)
theorem paired_map {α β : Type} {f : α → β} : ∀ {xs : List α} {ys : List β}, Paired (fun x y => y = f x) xs ys → ys = xs.map f
  | _, _, .nil => rfl
  | _, _, .cons h t => by rw [h, paired_map t, List.map_cons]
theorem paired_mem {α β : Type} {F : α → β → Prop} : ∀ {xs : List α} {ys : List β} {y : β}, Paired F xs ys → y ∈ ys → ∃ x ∈ xs, F x y
  | _, _, _, .nil, h => by cases h
  | _, _, _, .cons h t, hm => by
    rcases List.mem_cons.mp hm with e | e
    · subst e; exact ⟨_, List.mem_cons_self, h⟩
    · obtain ⟨x, a, b⟩ := paired_mem t e
      exact ⟨x, List.mem_cons_of_mem _ a, b⟩
/-- without tests: whatever each element may be -/
theorem lcD_all {gd : TDG} {te : TDE} {vs : List Nat} {r : En} {Q : Da → Prop} (F : Da → Da → Prop) : ∀ (ds acc : List Da),
    acc.length + ds.length ≤ 16777216 → (∀ d ∈ ds, ∀ P : Da → Prop, (∀ y, F d y → P y) → gd d (wipeD r vs) fun r2 => te r2 P) → (∀ ys, Paired F ds ys → Q (.lst (acc ++ ys))) → lcD gd dYes te vs r Q ds acc
  | [], acc, _, _, q => by
    have z := q [] .nil
    rw [List.append_nil] at z
    exact z
  | d :: ds, acc, hl, h, q => by
    rw [List.length_cons] at hl
    refine h d List.mem_cons_self (fun y => acc.length < sizeLine ∧ lcD gd dYes te vs r Q ds (acc ++ [y])) fun y fy => ⟨by rw [sizeLine_eq]; omega, ?_⟩
    refine lcD_all F ds (acc ++ [y]) (by rw [List.length_append]; show acc.length + 1 + _ ≤ _; omega) (fun e he => h e (List.mem_cons_of_mem _ he)) fun ys hy => ?_
    rw [List.append_assoc]
    exact q (y :: ys) (.cons fy hy)
/-- .. each element a function of the item -/
theorem lcD_map {gd : TDG} {te : TDE} {vs : List Nat} {r : En} {Q : Da → Prop} (f : Da → Da) {ds : List Da} (hl : ds.length ≤ 16777216)
    (h : ∀ d ∈ ds, ∀ P : Da → Prop, P (f d) → gd d (wipeD r vs) fun r2 => te r2 P) (q : Q (.lst (ds.map f))) : lcD gd dYes te vs r Q ds [] := by
  refine lcD_all (fun d y => y = f d) ds [] (by simpa using hl) (fun d hd P hp => h d hd P (hp _ rfl)) fun ys hy => ?_
  rw [paired_map hy]
  exact q
/-- with a test -/
theorem lcD_filter {gd : TDG} {tt : TDT} {te : TDE} {vs : List Nat} {r : En} {Q : Da → Prop} (p : Da → Bool) (f : Da → Da) : ∀ (ds acc : List Da), acc.length + ds.length ≤ 16777216 →
    (∀ d ∈ ds, ∀ (P : Bool → Da → Prop), (p d = true → P true (f d)) → (p d = false → P false .non) → gd d (wipeD r vs) fun r2 => tt r2 fun b => if b = true then te r2 (P true) else P false .non) →
    Q (.lst (acc ++ (ds.filter p).map f)) → lcD gd tt te vs r Q ds acc
  | [], acc, _, _, q => by
    have z : Q (.lst (acc ++ [])) := q
    rw [List.append_nil] at z
    exact z
  | d :: ds, acc, hl, h, q => by
    rw [List.length_cons] at hl
    refine h d List.mem_cons_self (fun b y => if b = true then acc.length < sizeLine ∧ lcD gd tt te vs r Q ds (acc ++ [y]) else lcD gd tt te vs r Q ds acc) (fun hp => ?_) (fun hp => ?_)
    · rw [if_pos rfl]
      refine ⟨by rw [sizeLine_eq]; omega, lcD_filter p f ds _ (by rw [List.length_append]; show acc.length + 1 + _ ≤ _; omega) (fun e he => h e (List.mem_cons_of_mem _ he)) ?_⟩
      rw [List.filter_cons_of_pos hp, List.map_cons] at q
      rw [List.append_assoc]
      exact q
    · rw [if_neg Bool.false_ne_true]
      refine lcD_filter p f ds _ (by omega) (fun e he => h e (List.mem_cons_of_mem _ he)) ?_
      rw [List.filter_cons_of_neg (by rw [hp]; exact Bool.false_ne_true)] at q
      exact q

/-! ### loops -/
/-- I i r: ahead of turn i -/
theorem forD_inv {gd : TDG} {tb : TDS} {E : EnD} {ds : List Da} (I : Nat → En → Prop) (step : ∀ i d r, ds[i]? = some d → I i r → gd d r fun r1 => tb { E with nx := I (i + 1), ct := I (i + 1), bk := E.nx } r1) (done : ∀ r, I ds.length r → E.nx r)
    (G : ∀ d r Q Q', (∀ r, Q r → Q' r) → gd d r Q → gd d r Q') (m : MoS tb) : ∀ (es : List Da) (i : Nat) (r : En), ds.drop i = es → I i r → i ≤ ds.length → forD gd tb E es r
  | [], i, r, e, h, hi => by
    have : i = ds.length := by
      have := congrArg List.length e
      rw [List.length_drop, List.length_nil] at this
      omega
    subst this
    exact done r h
  | d :: es, i, r, e, h, hi => by
    have hl : i < ds.length := by
      have := congrArg List.length e
      rw [List.length_drop, List.length_cons] at this
      omega
    have e2 := List.drop_eq_getElem_cons hl
    rw [e] at e2
    injection e2 with e3 e4
    have hd : ds[i]? = some d := by rw [List.getElem?_eq_getElem hl, e3]
    refine G _ _ _ _ (fun r1 z => ?_) (step i d r hd h)
    refine m { E with nx := I (i + 1), ct := I (i + 1), bk := E.nx } _ r1 ⟨fun r2 z => ?_, fun _ z => z, fun _ z => z, fun r2 z => ?_⟩ z
    · exact forD_inv I step done G m es (i + 1) r2 e4.symm z (by omega)
    · exact forD_inv I step done G m es (i + 1) r2 e4.symm z (by omega)
end Pd
/-! (x,) * n; texts split; a script's bag; a draw. -/
namespace Pd
open PySem PySem.Spec PyProof.Rows L2

/-! ### a tuple n times -/
theorem mul_none (l : Addr) (items : Array Value) (n : Nat) (dd : Option Addr) (sl : Array (Option Value)) (x : Int) (u : Tok) (c0 : (decide (x < -(2 ^ 63)) || decide (x ≥ 2 ^ 63)) = false) (c1 : (items.isEmpty || x == 1) = false) (c2 : (decide (x ≤ 0) || items.isEmpty) = true) :
    Meets (Builtin.«tuple.__mul__» ⟨[.ref l, .int x u], []⟩) (fun _ R s => s.heap.get? l = some { cls := .type "tuple", dict := dd, data := .seq items n, slots := sl } ∧
      R (.ok (.ret (Value.ref s.heap.objs.size))) { s with heap := s.heap.push { cls := Value.type "tuple", data := Data.seq #[] }, toks := s.toks }) :=
  .of_wp fun prog w A R s h => by
    obtain ⟨hp, g, d, tk, os⟩ := s
    obtain ⟨hl, h⟩ := h
    have f1 := AutoSeq1.idx_int
    have hsz : (#[] : Array Value).size ≤ sizeLine := Nat.zero_le _
    wp_walk using wpAny_loadPart' hl
    repeat (first
      | (refine wpAny_ite_false (decide_eq_false (by rw [c0]; exact Bool.false_ne_true)) ?_; wp_walk using wpAny_loadPart' hl)
      | (refine wpAny_ite_false (decide_eq_false (by rw [c1]; exact Bool.false_ne_true)) ?_; wp_walk using wpAny_loadPart' hl)
      | (refine wpAny_ite_true (decide_eq_true c2) ?_; wp_walk using wpAny_loadPart' hl))
    exact ⟨_, rfl, h⟩
theorem mul_once (l : Addr) (items : Array Value) (n : Nat) (dd : Option Addr) (sl : Array (Option Value)) (x : Int) (u : Tok) (c0 : (decide (x < -(2 ^ 63)) || decide (x ≥ 2 ^ 63)) = false) (c1 : (items.isEmpty || x == 1) = true) :
    Meets (Builtin.«tuple.__mul__» ⟨[.ref l, .int x u], []⟩) (fun _ R s => s.heap.get? l = some { cls := .type "tuple", dict := dd, data := .seq items n, slots := sl } ∧
      R (.ok (.ret (Value.ref l))) s) :=
  .of_wp fun prog w A R s h => by
    obtain ⟨hp, g, d, tk, os⟩ := s
    obtain ⟨hl, h⟩ := h
    have f1 := AutoSeq1.idx_int
    wp_walk using wpAny_loadPart' hl
    repeat (first
      | (refine wpAny_ite_false (decide_eq_false (by rw [c0]; exact Bool.false_ne_true)) ?_; wp_walk using wpAny_loadPart' hl)
      | (refine wpAny_ite_true (decide_eq_true c1) ?_; wp_walk using wpAny_loadPart' hl))
    exact ⟨_, rfl, h⟩

def rRepS (K : PySem.W.Frag) : R2 := fun x y H Q => ∃ l k xs, x = .ref l ∧ y = .int k ∧ SqT K H l xs ∧ xs ≠ [] ∧ -1000 ≤ k ∧ k ≤ 1000 ∧ xs.length ≤ 1000 ∧ (k = 1 → Q (.ref l) H) ∧ NewT (List.replicate k.toNat xs).flatten H Q
section
variable {X : Cx}
theorem op_repS : OpR X (binaryOp .Mult) (rRepS X.K) := by
  intro pins s σ H x y v u Q I rx ry h
  obtain ⟨l, k, xs, rfl, rfl, hT, hne, h0, h2, hz, q1, q⟩ := h
  cases rx
  obtain ⟨t, rfl⟩ := ry
  obtain ⟨its, r, pl, hs⟩ := I.tuple hT
  obtain ⟨⟨cls, dd, data, sl⟩, ho, hc, n, hd⟩ := id pl
  simp only at hc hd
  subst hc hd
  have hle : its.length = xs.length := r.length.symm
  have hn : its ≠ [] := fun e => hne (r.nil_iff.mp e)
  have hi : its.toArray.isEmpty = false := by
    cases its with
    | nil => exact absurd rfl hn
    | cons a b => rfl
  have z1 : k.toNat * xs.length ≤ 1000 * 1000 := Nat.mul_le_mul (by omega) hz
  have flen : (List.replicate k.toNat its).flatten.length ≤ sizeLine := by
    rw [PyProof.Rows.lm_len_rep_flat, hle, sizeLine_eq]
    omega
  have c0 : (decide (k < -(2 ^ 63)) || decide (k ≥ 2 ^ 63)) = false := by
    rw [decide_eq_false (show ¬ k < -(2 ^ 63) by omega), decide_eq_false (show ¬ k ≥ 2 ^ 63 by omega)]
    rfl
  have go : ∀ {S : PySem.Spec}, Meets (Builtin.«tuple.__mul__» ⟨[.ref l, .int k t], []⟩) S → S X.A (wants (EP X pins σ Q) X.xe) s → wpAny (model X.prog X.w) X.A (binaryOp .Mult (.ref l) (.int k t)) (EP X pins σ Q) X.xe s := fun m hS =>
    wpAny_binaryOp_repeat_ref (T := "tuple") (U := "int") (by decide) ⟨_, ho, rfl⟩ (fun s' => typeIs_int s' k t) noFill_tuple_mul F.fills_int_mul F.slot_int_rmul repeat_tuple F.slot_int_index.lookup
      (call_meets F.slot_int_rmul (typeIs_int s k t) F.entry_int_rmul (F.args_int_rmul_2 _ _) (int_rmul_tuple k t l its.toArray n dd sl)
        ⟨ho, rfl, ⟨_, ho, rfl⟩, call_meets F.slot_tuple_mul ⟨_, ho, rfl⟩ F.entry_tuple_mul (F.args_tuple_mul_2 _ _) m hS⟩)
  by_cases k1 : k = 1
  · refine go (mul_once l its.toArray n dd sl k t c0 (by rw [hi, Bool.false_or]; exact beq_iff_eq.mpr k1)) ⟨ho, ?_⟩
    exact ⟨.ref l, H, I, rfl, q1 k1⟩
  · have c1 : (its.toArray.isEmpty || k == 1) = false := by
      rw [hi, Bool.false_or]
      exact beq_eq_false_iff_ne.mpr k1
    by_cases k0 : k ≤ 0
    · refine go (mul_none l its.toArray n dd sl k t c0 c1 (by rw [decide_eq_true k0]; rfl)) ⟨ho, ?_⟩
      have e : (List.replicate k.toNat xs).flatten = [] := by
        rw [show k.toNat = 0 by omega]
        rfl
      rw [e] at q
      exact new_tup (its := []) I .nil (Nat.zero_le _) q
    · have c2 : (decide (k ≤ 0) || its.toArray.isEmpty) = false := by
        rw [hi, Bool.or_false]
        exact decide_eq_false k0
      have hm : ((its.toArray.size : Nat) : Int) * k ≤ 1000000 := by
        rw [List.size_toArray, hle]
        have a1 : ((xs.length : Nat) : Int) * k ≤ 1000 * k := Int.mul_le_mul_of_nonneg_right (by omega) (by omega)
        omega
      have c4 : Builtin.Tuple.tupleTooMany (((its.toArray.size : Nat) : Int) * k) = false := by
        unfold Builtin.Tuple.tupleTooMany
        rw [sizeLine_eq]
        exact decide_eq_false (by omega)
      refine go (tuple_mulW l its.toArray n dd sl k t c0 c1 c2 (by omega) c4 (by rw [size_rep, List.size_toArray]; exact flen)) ⟨ho, ?_⟩
      rw [size_rep]
      refine new_tup I (r.rep k.toNat) ?_ q
      rw [PyProof.Rows.lm_len_rep_flat, sizeLine_eq]
      omega
def repTD : DD := fun x y Q => ∃ xs n, x = .tup xs ∧ y = .int n ∧ xs ≠ [] ∧ -1000 ≤ n ∧ n ≤ 1000 ∧ xs.length ≤ 1000 ∧ Q (.tup (List.replicate n.toNat xs).flatten)
theorem ped_repT {w : Wd} {a b : Expr} {pos : Pos} {ta tb : TDE} (ha : PEd X w a ta) (hb : PEd X w b tb) : PEd X w (.BinOp a .Mult b pos) (dOp repTD ta tb) := by
  refine ped_bin op_repS (fun x y Q Q' q ⟨xs, n, a, b, c, d, e, f, h⟩ => ⟨xs, n, a, b, c, d, e, f, q _ h⟩) ?_ ha hb
  rintro g W H v u x y Q k dx dy ⟨xs, n, rfl, rfl, h1, h2, h3, h4, h⟩
  cases dy
  cases dx with
  | @tup c us _ a1 a2 =>
    refine ⟨c, n, us, rfl, rfl, sq_hid a1.sq, fun e => ?_, h2, h3, by rw [a2.len]; exact h4, fun e => ?_, h.newT k (a2.rep _)⟩
    · subst e
      cases a2
      exact h1 rfl
    · subst e
      have e2 : (List.replicate (1 : Int).toNat xs).flatten = xs := by
        show (List.replicate 1 xs).flatten = xs
        simp
      rw [e2] at h
      exact h.now k (.tup a1 a2)

/-! ### texts split -/
def dSplit (ta tb : TDE) : TDE := fun r Q => ta r fun x => ∃ a, x = .str a ∧ tb r fun y => ∃ b, y = .str b ∧ (b.length == 0) = false ∧ a.length + 2 ≤ sizeLine ∧ Q (.lst ((Txt.split a b).map .str))
theorem ped_split {w : Wd} {a b : Expr} {apos pos : Pos} {ta tb : TDE} (ha : PEd X w a ta) (hb : PEd X w b tb) (hs : starEach [b] X.env = [(false, eval b X.env)] := by rfl) (hbase : attributeBase a "split" X.env (eval a X.env) = eval a X.env := by rfl) (hline : (apos.endLine == pos.line) = true := by rfl) :
    PEd X w (.Call (.Attribute a "split" apos) [b] [] pos) (dSplit ta tb) := by
  refine ⟨weE (pe_split ha.pe hb.pe hs hbase hline) ?_, fun r Q Q' q h => ha.mo _ _ _ (fun x ⟨a, e, z⟩ => ⟨a, e, hb.mo _ _ _ (fun y ⟨b, c, d, f, z⟩ => ⟨b, c, d, f, q _ z⟩) z⟩) h⟩
  rintro σ H Q ⟨W, own, r, S, h⟩
  refine go1 ha S h fun x v H1 e1 k1 d1 z => ?_
  obtain ⟨a, rfl, z⟩ := z
  cases d1
  refine ⟨⟨a, rfl⟩, go1 hb (S.ext e1 k1) z fun y u H2 e2 k2 d2 z2 => ?_⟩
  obtain ⟨b, rfl, c1, c2, z3⟩ := z2
  cases d2
  exact ⟨a, b, rfl, rfl, c1, c2, fun p np => (z3.then (e1.trans e2)).newL k2 np (DvAll.mk_strs _)⟩
end
end Pd
/-! A law's own frame: the bag is made of the script, then the rest in data; the end of a row. -/
namespace Pd
open PySem PySem.Spec PyProof.Rows L2

/-! ### the bag, made -/
def spBag (K : PySem.W.Frag) : Sp := fun vs H Q _ => ∃ (a : Addr) (ns : List Int), vs = [.ref a] ∧ SqL K H a (ns.map V.int) ∧ ns.length ≤ 63 ∧
  ∀ (H' : Hp) (p c : Addr) (cs : List Int), Sm H H' → H p = none → H c = none → c ≠ p → H' p = some (bagL 0 1234567891 0 c) → H' c = some (.lst (cs.map V.int)) → Q (.ref p) H'
def absI (i : Int) : Int := if i < 0 then -i else i
theorem cutV_ints (ns : List Int) (lo hi : Option Int) : ∃ ms : List Int, cutV (ns.map V.int) lo hi = ms.map V.int ∧ ms.length ≤ ns.length := by
  unfold cutV
  rw [← List.map_drop, ← List.map_take]
  refine ⟨_, rfl, ?_⟩
  rw [List.length_take, List.length_drop]
  omega
theorem bag_read (K : PySem.W.Frag) (vs : List V) (H : Hp) (Q : VK) (E : XK) (h : spBag K vs H Q E) (m1 : TT) (hm : m1 = tYes) :
    tRet (tLst (tCons (tC (.int 0)) (tCons (tC (.int 1234567891)) (tCons (tC (.int 0)) (tCons (tLc (iList K (tSl (rSlL K) (tVar 0) tNoPart (tPart (tC (.int 63))))) (gName 1) m1 (tCB (fun xs H Q => ∃ i, xs = [V.int i] ∧ Q (.int (if i < 0 then -i else i)) H) (tCons (tVar 1) tNil)) [1]) tNil)))))
      { nx := fun _ H' => Q .non H', rt := Q } (L2.start ["_law_script", "_law_cell"] vs) H := by
  subst hm
  obtain ⟨a, ns, rfl, hS, hl, q⟩ := h
  refine ⟨.ref a, rfl, 63, rfl, a, ns.map V.int, rfl, hS, fun b nb => ?_⟩
  obtain ⟨ms, em, lm⟩ := cutV_ints ns none (some 63)
  have sb : Sm H (upd H b (.lst (cutV (ns.map V.int) none (some 63)))) := sm_upd nb
  refine ⟨b, rfl, ⟨_, SqL.of upd_same⟩, fun D hD => ?_⟩
  have nDb : D ≠ b := fun e => by rw [e, upd_same] at hD; cases hD
  rw [em] at hD sb ⊢
  refine lc_list (K := K) (a := b) (xs := ms.map V.int) (fun i H' => (∀ x o, x ≠ D → upd H b (.lst (ms.map V.int)) x = some o → H' x = some o) ∧ H' D = some (.lst (((ms.take i).map absI).map V.int))) ⟨fun x o n e => by rw [upd_ne n]; exact e, upd_same⟩
    (fun i H' _ h => SqL.of (h.1 b _ nDb.symm upd_same)) ?_ ?_
  · rintro i x H' hi ⟨k, hD'⟩
    obtain ⟨z, hz, rfl⟩ : ∃ z, ms[i]? = some z ∧ x = V.int z := by
      rw [List.getElem?_map] at hi
      cases e : ms[i]? with
      | none => rw [e] at hi; cases hi
      | some z => rw [e] at hi; exact ⟨z, rfl, (Option.some.inj hi).symm⟩
    refine ⟨rfl, ?_⟩
    unfold tYes
    dsimp only
    rw [if_pos rfl]
    refine ⟨_, rfl, z, rfl, _, hD', ?_, fun y o n e => by rw [upd_ne n]; exact k y o n e, ?_⟩
    · rw [List.length_map, List.length_map, List.length_take, sizeLine_eq]
      omega
    · rw [upd_same, List.take_add_one, hz, List.map_append, List.map_append]
      rfl
  · rintro H' ⟨k, hD'⟩
    rw [List.length_map, List.take_length] at hD'
    refine ⟨by show 4 ≤ sizeLine; decide, fun p np => ?_⟩
    have nDp : D ≠ p := ne_of_none hD' np
    have hDn : H D = none := by
      cases e : H D with
      | none => rfl
      | some o => rw [sb D o e] at hD; cases hD
    have keep : Sm H H' := fun x o e => k x o (ne_of_none e hDn) (sb x o e)
    have hp : H p = none := by
      cases e : H p with
      | none => rfl
      | some o => rw [keep p o e] at np; cases np
    refine q _ p D _ (fun x o e => ?_) hp hDn nDp upd_same (by rw [upd_ne nDp]; exact hD')
    rw [upd_ne (ne_of_none e hp)]
    exact keep x o e

/-! ### the law -/
def spLaw (K : PySem.W.Frag) : Sp := fun vs H Q _ => ∃ (a : Addr) (ns : List Int), vs = [.ref a] ∧ SqL K H a (ns.map V.int) ∧ ns.length ≤ 63 ∧ ∀ H', Q (.bl true) H'
def liX (K : PySem.W.Frag) (t : TDS) : TS := fun E σ H => ∃ w, liS K w t E σ H
theorem pssX {X : Cx} {sts : List Stmt} {t : TDS} (h : ∀ w, PSsd X w sts t) : PSs X sts (liX X.K t) := by
  constructor
  rintro pins s σ H D I ⟨w, q⟩
  exact (h w).ps.run pins s σ H D I q
/-- the slots behind the bag's making: nothing but the bag, at 1 -/
def lawStart (n : Nat) : En := .no :: .dat .bag :: List.replicate n .no
theorem lawG {P : Program} {wd : World} {K : PySem.W.Frag} {mg : Str → Option Value} {base : Heap} {st s1 : Stmt} {rest : List Stmt} {f : Addr} {fd : FuncData} {n : Nat} {names : List Str} {k : Nat}
    (F : Fun K "law" "law" st f fd) (S : FnScope ("_law_script" :: "_law_bag_here" :: names) ["_law_script"] (defScope st)) (hn : names.length = n) (hb : defBody st = s1 :: rest)
    (inside : ∀ (cdv : Value) (A : Around) (outer : List Env) (s0 : Shared) (H : Hp) (E : XK), Room k (A.deeper (envOfC "law" (defScope st) s0.heap.objs.size f cdv)) → A.guards = some [] →
      ∃ td, PS (cxOf CX0 P wd K mg base ("_law_script" :: "_law_bag_here" :: names) "law" (defScope st) f cdv A outer s0 H E).nox s1 (tAsg (tCall (spBag K) [] E0 (tCons (tVar 0) tNil)) (gName 1)) ∧
        (∀ w, PSsd (cxOf CX0 P wd K mg base ("_law_script" :: "_law_bag_here" :: names) "law" (defScope st) f cdv A outer s0 H E).nox w rest td) ∧ td { nx := fun _ => False, rt := fun d => d = .bl true } (lawStart n)) :
    FnG P wd K mg base CX0 (k + 1) f fd ["_law_script"] (spLaw K) := by
  refine FunG.ok F S ?_ ?_
  · rintro vs H Q E ⟨a, ns, rfl, _⟩
    rfl
  · rintro cdv A outer s0 H vs Q E room hG ⟨a, ns, rfl, hS, hl, q⟩
    obtain ⟨td, h1, h2, h3⟩ := inside cdv A outer s0 H E room hG
    rw [hb]
    refine ⟨_, pss_cons h1 (pssX h2), .ref a, rfl, a, ns, rfl, hS, hl, fun H' p c cs sm np nc ne hp hc => ?_⟩
    have kW : OkW K (some p) (fun b => decide (b = p)) H' := by
      refine ⟨fun b hb => ?_, fun b hb => ?_, fun b hb => ?_⟩
      · cases hb
        exact ⟨0, 1234567891, 0, c, cs, hp, by rw [hid_no (decide_eq_false ne)]; exact hc⟩
      · cases hb
        exact decide_eq_true rfl
      · have e : b = p := of_decide_eq_true hb
        rw [e]
        exact ⟨_, hp⟩
    refine ⟨⟨H', some p, fun b => decide (b = p)⟩, fun b => decide (b = p), fun _ _ => False, lawStart n, ⟨kW, Ext.refl, fun _ h => h, kW.gW, (fun i a h => by cases h), (fun i j a h => by cases h), ?_, fun i d h nd => ?_⟩, (h2 ⟨H', some p, fun b => decide (b = p)⟩).mo { nx := fun _ => False, rt := fun d => d = .bl true } _ _ ⟨fun _ z => z.elim, fun d z v H2 e2 k2 d2 => ?_, fun _ z => z.elim, fun _ z => z.elim⟩ h3⟩
    · unfold lawStart L2.start
      simp only [List.length_cons, List.length_replicate, List.length_set, List.length_append, List.length_map, List.length_nil, hn]
      omega
    · match i, h with
      | 0, h => cases h; exact absurd rfl nd
      | 1, h =>
        cases h
        exact ⟨.ref p, rfl, .bag rfl⟩
      | i + 2, h =>
        have : (List.replicate n Sl.no)[i]? = some d := h
        rw [List.getElem?_replicate] at this
        split at this
        · cases this; exact absurd rfl nd
        · cases this
    · subst z
      cases d2
      exact q H2
end Pd
/-! sum of a tuple; readings of slices, counts, dicts. -/
namespace Pd
open PySem PySem.Spec PyProof.Rows L2

section
variable {X : Cx} {w : Wd}
def rSumB (K : PySem.W.Frag) : List V → Hp → VK → Prop := fun vs H Q => ∃ (a : Addr) (ns : List Int), vs = [V.ref a] ∧ (SqL K H a (ns.map V.int) ∨ SqT K H a (ns.map V.int)) ∧ Q (.int ns.sum) H
theorem cr_sumB (hc : X.calm = true) : CallR X (.builtin "sum") (rSumB X.K) := by
  intro pins s σ H vs us Q I r h
  obtain ⟨a, ns, rfl, hs, q⟩ := h
  rcases hs with hs | hs
  · exact cr_sum hc pins s σ H _ us Q I r ⟨a, ns, rfl, hs, q⟩
  · obtain ⟨its, rv, hl, _⟩ := I.tuple hs
    rw [Vals.ref1 r]
    obtain ⟨xs, e⟩ := rv.ints.allInts.items
    have hn : numsOf (intItems xs).toList = ns := by rw [← e]; exact rv.ints.numsOf
    rw [nums_intItems] at hn
    rw [e] at hl
    refine PySem.W.ktm_sumG (I.ok.hd hc) hl fun h' tk t' hk => ?_
    rw [preSum_eq, List.take_of_length_le (by simp), hn]
    exact ⟨.int _, H, I.kept hk, ⟨_, rfl⟩, q⟩
def sumBD : DB := fun ds Q => ∃ (x : Da) (is : List Int), ds = [x] ∧ seqOf x = some (is.map .int) ∧ Q (.int is.sum)
theorem ped_sumB {e : Expr} {es : List Expr} {t : TDA} {p pos : Pos} (hm : X.mg "sum" = none) (args : PAd X w (e :: es) t) (hc : X.calm = true := by rfl) (hg : Gl X "sum" := by rfl) (he : starEach (e :: es) X.env = (false, eval e X.env) :: starEach es X.env := by rfl) (hpl : (backTo pos (starEach es X.env)).any (·.1) = false := by rfl) :
    PEd X w (.Call (.Name "sum" p) (e :: es) [] pos) (dCall sumBD t) := by
  refine ped_callB (cr_sumB hc) (fun ds Q Q' q ⟨x, is, a, b, h⟩ => ⟨x, is, a, b, q _ h⟩) ?_ hm (by decide +kernel) args hg (by decide) (by decide) he hpl
  rintro g W H vs ds Q k dv ⟨x, is, rfl, h1, h⟩
  obtain ⟨v, rfl, dx⟩ := dv.one
  obtain ⟨a, us, rfl, hq, hd⟩ := seq_sq dx h1
  have ei := hd.ints
  subst ei
  exact ⟨a, is, rfl, hq, h.now k (.int _)⟩
end

/-! ### readings -/
theorem cutD_from (xs : List Da) {t : Nat} (h : t ≤ xs.length) : cutD xs (some (t : Int)) none = xs.drop t := by
  unfold cutD
  rw [HT.sIx_nat, HT.sIx_none, Nat.min_eq_left h, List.take_of_length_le]
  rw [List.length_drop]
  exact Nat.le_refl _
theorem cutD_to (xs : List Da) (t : Nat) : cutD xs none (some (t : Int)) = xs.take t := by
  unfold cutD
  rw [HT.sIx_nat, HT.sIx_none, List.drop_zero, Nat.sub_zero]
  rcases Nat.le_total t xs.length with h | h
  · rw [Nat.min_eq_left h]
  · rw [Nat.min_eq_right h, List.take_of_length_le (Nat.le_refl _), List.take_of_length_le h]
theorem cnt_strs (a : List Str) (t : Str) : ((toPs (a.map .str)).countP fun d => PyData.eqv d (toP (.str t))) = a.countP (· == t) := by
  induction a with
  | nil => rw [List.map_nil, toPs]; rfl
  | cons x xs ih =>
    have e : PyData.eqv (toP (.str x)) (toP (.str t)) = (x == t) := eqd_str x t
    rw [List.map_cons, toPs, List.countP_cons, List.countP_cons, ih, e]
theorem canP_strs (a : List Str) : canPs (a.map .str) = true := by
  rw [canPs_all, List.all_map, List.all_eq_true]
  intro x _
  show canP (.str x) = true
  rw [canP]
theorem dep_strs (a : List Str) : PyData.depthAll (toPs (a.map .str)) ≤ 60 := by
  have : PyData.depthAll (toPs (a.map .str)) = 0 := by
    induction a with
    | nil => rw [List.map_nil, toPs, PyData.depthAll]
    | cons x xs ih => rw [List.map_cons, toPs, PyData.depthAll, ih, toP, PyData.depth]; rfl
  omega
/-- a dict with a value for each of some texts -/
def wD (ts : List Str) (f : Str → Da) : List (Key × Da) := ts.map fun t => (.inr t, f t)
theorem valD_w {ts : List Str} {f : Str → Da} {t : Str} (h : t ∈ ts) : valD (wD ts f) (.inr t) = some (f t) := by
  unfold valD wD
  induction ts with
  | nil => cases h
  | cons x xs ih =>
    rw [List.map_cons, List.find?_cons]
    by_cases e : x = t
    · subst e
      simp
    · have e2 : decide ((Sum.inr x : Key) = .inr t) = false := decide_eq_false fun z => e (Sum.inr.inj z)
      simp only [e2]
      exact ih ((List.mem_cons.mp h).resolve_left fun z => e z.symm)
theorem putD_new {kvs : List (Key × Da)} {k : Key} {v : Da} (h : k ∉ kvs.map (·.1)) : putD kvs k v = kvs ++ [(k, v)] := by
  unfold putD
  rw [if_neg]
  intro z
  rw [List.any_eq_true] at z
  obtain ⟨kv, a, b⟩ := z
  exact h (List.mem_map.mpr ⟨kv, a, of_decide_eq_true b⟩)
theorem mergeD_new : ∀ (more kvs : List (Key × Da)), ((kvs ++ more).map (·.1)).Nodup → mergeD kvs more = kvs ++ more
  | [], kvs, _ => by rw [List.append_nil]; rfl
  | kv :: more, kvs, h => by
    have h1 : kv.1 ∉ kvs.map (·.1) := by
      rw [List.map_append, List.nodup_append] at h
      exact fun z => h.2.2 _ z _ (by rw [List.map_cons]; exact List.mem_cons_self) rfl
    show mergeD (putD kvs kv.1 kv.2) more = _
    rw [putD_new h1, mergeD_new more _ (by rw [List.append_assoc]; exact h), List.append_assoc]
    rfl
theorem mergeD_w {ts : List Str} {f : Str → Da} (h : ts.Nodup) : mergeD [] (wD ts f) = wD ts f := by
  refine (mergeD_new _ [] ?_).trans rfl
  rw [List.nil_append]
  unfold wD
  rw [List.map_map]
  exact List.pairwise_map.mpr (h.imp fun n z => n (Sum.inr.inj z))
/-- a value for each of some texts, each on its own -/
theorem paired_fun {ts : List Str} (nd : ts.Nodup) {ys : List Da} {F : Str → Int → Prop} (h : Paired (fun d y => ∃ t i, d = .str t ∧ y = .tup [.str t, .int i] ∧ F t i) (ts.map Da.str) ys) :
    ∃ w : Str → Int, (∀ t ∈ ts, F t (w t)) ∧ ys = ts.map fun t => .tup [.str t, .int (w t)] := by
  induction ts generalizing ys with
  | nil => cases h; exact ⟨fun _ => 0, (fun _ m => by cases m), rfl⟩
  | cons x xs ih =>
    rw [List.map_cons] at h
    cases h with
    | cons p t =>
      obtain ⟨t', i, e1, e2, f⟩ := p
      cases e1
      obtain ⟨w, h1, h2⟩ := ih (List.nodup_cons.mp nd).2 t
      have hx := (List.nodup_cons.mp nd).1
      refine ⟨fun s => if s = x then i else w s, fun s m => ?_, ?_⟩
      · dsimp only
        by_cases e : s = x
        · subst e
          rw [if_pos rfl]
          exact f
        · rw [if_neg e]
          exact h1 s ((List.mem_cons.mp m).resolve_left e)
      · rw [List.map_cons, e2, h2]
        dsimp only
        rw [if_pos rfl]
        congr 1
        refine List.map_congr_left fun s m => ?_
        rw [if_neg fun e => hx (by rw [← e]; exact m)]
end Pd
/-! Comprehensions by their results; rows of integers and tuples of texts. -/
namespace Pd
open PySem PySem.Spec PyProof.Rows L2

/-- without tests: the list that comes out is given -/
theorem lcD_ix {gd : TDG} {te : TDE} {vs : List Nat} {r : En} {Q : Da → Prop} : ∀ (ds res acc : List Da), res.length = ds.length → acc.length + ds.length ≤ 16777216 →
    (∀ (k : Nat) (h1 : k < ds.length) (h2 : k < res.length) (P : Da → Prop), P res[k] → gd ds[k] (wipeD r vs) fun r2 => te r2 P) → Q (.lst (acc ++ res)) → lcD gd dYes te vs r Q ds acc
  | [], [], acc, _, _, _, q => by
    rw [List.append_nil] at q
    exact q
  | [], y :: ys, _, e, _, _, _ => by cases e
  | d :: ds, [], _, e, _, _, _ => by cases e
  | d :: ds, y :: ys, acc, e, hl, h, q => by
    rw [List.length_cons] at hl
    refine h 0 (Nat.succ_pos _) (Nat.succ_pos _) (fun z => acc.length < sizeLine ∧ lcD gd dYes te vs r Q ds (acc ++ [z])) ⟨by rw [sizeLine_eq]; omega, ?_⟩
    refine lcD_ix ds ys (acc ++ [y]) (Nat.succ.inj e) (by rw [List.length_append]; show acc.length + 1 + _ ≤ _; omega) (fun k h1 h2 P hP => ?_) ?_
    · exact h (k + 1) (Nat.succ_lt_succ h1) (Nat.succ_lt_succ h2) P hP
    · rw [List.append_assoc]
      exact q
theorem rngD_get {n k : Nat} (h : k < (rngD n).length) : (rngD n)[k] = .int (k : Nat) := by
  have := rngD_at (n := n) (i := k) (by rw [rngD_len] at h; exact h)
  rw [List.getElem?_eq_getElem h] at this
  exact Option.some.inj this
theorem at_int {is : List Int} {k : Nat} (h : k < is.length) : L2.atI (is.map Da.int) ((k : Nat) : Int) = some (.int is[k]) := by
  refine L2.atI_nat ?_
  rw [List.getElem?_map, List.getElem?_eq_getElem h]
  rfl
theorem at_da {is : List Da} {k : Nat} (h : k < is.length) : L2.atI is ((k : Nat) : Int) = some is[k] := by
  refine L2.atI_nat ?_
  rw [List.getElem?_eq_getElem h]

abbrev strsD (ts : List Str) : Da := .tup (ts.map .str)
abbrev rowD (is : List Int) : Da := .tup (is.map .int)
/-- integers up to b either way -/
def Upto (b : Int) (is : List Int) : Prop := ∀ i ∈ is, -b ≤ i ∧ i ≤ b
theorem Upto.at {b : Int} {is : List Int} (h : Upto b is) {k : Nat} (hk : k < is.length) : -b ≤ is[k] ∧ is[k] ≤ b := h _ (List.getElem_mem hk)
theorem mul_upto {i j a b : Int} (h1 : -a ≤ i ∧ i ≤ a) (h2 : -b ≤ j ∧ j ≤ b) : -(a * b) ≤ i * j ∧ i * j ≤ a * b := by
  have ha : (0 : Int) ≤ a := by omega
  have hb : (0 : Int) ≤ b := by omega
  have e : (i * j).natAbs ≤ a.natAbs * b.natAbs := by
    rw [Int.natAbs_mul]
    exact Nat.mul_le_mul (by omega) (by omega)
  have e2 : ((a.natAbs * b.natAbs : Nat) : Int) = a * b := by
    rw [Int.natCast_mul, Int.natAbs_of_nonneg ha, Int.natAbs_of_nonneg hb]
  omega
theorem sum_upto {b : Int} : ∀ {is : List Int}, Upto b is → -(b * is.length) ≤ is.sum ∧ is.sum ≤ b * is.length
  | [], _ => by simp
  | i :: is, h => by
    have h1 := sum_upto (is := is) fun j hj => h j (List.mem_cons_of_mem _ hj)
    have h2 := h i List.mem_cons_self
    rw [List.sum_cons, List.length_cons, Int.natCast_add, Int.mul_add]
    omega
theorem sz_row {is : List Int} {b : Int} (h : Upto b is) (hb : b < 2 ^ 400) {n : Nat} (hn : is.length ≤ n) : Sz (rowD is) 1 (n * 1923 + 3) := by
  refine (sz_tup (n := 0) (c := 1921) fun d hd => ?_).up (Nat.le_refl _) ?_
  · obtain ⟨i, hi, rfl⟩ := List.mem_map.mp hd
    have := h i hi
    exact sz_int' (by omega) (by omega)
  · rw [List.length_map]
    exact Nat.add_le_add_right (Nat.mul_le_mul_right _ hn) 3
theorem eq_true_alike {x : Da} {n c : Nat} (h : Sz x n c) (hn : n ≤ 60) (hc : c ≤ 16777216) : shp x = true ∧ shp x = true ∧ eqd x x = true := ⟨h.shp hn, h.shp hn, eqd_refl h⟩
theorem cmul_small {i j : Int} (h : -1000000 ≤ j ∧ j ≤ 1000000) : CMulA i j := .inl (.inr ⟨by omega, by omega⟩)
theorem cmul_small' {i j : Int} (h : -1000000 ≤ i ∧ i ≤ 1000000) : CMulA i j := .inl (.inl ⟨by omega, by omega⟩)
theorem cmul_wide {i j : Int} (h1 : -(2 ^ 400) < i ∧ i < 2 ^ 400) (h2 : -(2 ^ 400) < j ∧ j < 2 ^ 400) : CMulA i j := by
  refine .inr ?_
  have a := log2_of (i := i) (k := 400) (by omega) (by decide)
  have b := log2_of (i := j) (k := 400) (by omega) (by decide)
  unfold CMulW
  omega
/-! ### texts compared -/
def strEqD : DD := fun x y Q => ∃ i j, x = .str i ∧ y = .str j ∧ Q (.bl (i == j))
theorem ped_eqS {X : Cx} {w : Wd} {a b : Expr} {pos : Pos} {ta tb : TDE} (ha : PEd X w a ta) (hb : PEd X w b tb) : PEd X w (.Compare a [.Eq] [b] pos) (dOp strEqD ta tb) := by
  refine ped_cmp op_eq (nobehind _ (by decide) (by decide)) (fun x y Q Q' q ⟨i, j, a, b, h⟩ => ⟨i, j, a, b, q _ h⟩) ?_ ha hb
  rintro g W H v u x y Q k dx dy ⟨i, j, rfl, rfl, h⟩
  cases dx
  cases dy
  have e : decide (V.str i = V.str j) = (i == j) := by
    rw [Bool.eq_iff_iff]
    simp
  exact ⟨rfl, by rw [e]; exact h.now k (.bl _)⟩
/-! ### loops by what holds ahead of each turn -/
theorem forD_go {gd : TDG} {tb : TDS} {E : EnD} {ds : List Da} (I : Nat → En → Prop) (done : ∀ r, I ds.length r → E.nx r)
    (step : ∀ i d r (nx : En → Prop), ds[i]? = some d → I i r → (∀ r', I (i + 1) r' → nx r') → gd d r fun r1 => tb { E with nx := nx, ct := nx, bk := E.nx } r1) :
    ∀ (es : List Da) (i : Nat) (r : En), ds.drop i = es → I i r → i ≤ ds.length → forD gd tb E es r
  | [], i, r, e, h, hi => by
    have : i = ds.length := by
      have := congrArg List.length e
      rw [List.length_drop, List.length_nil] at this
      omega
    subst this
    exact done r h
  | d :: es, i, r, e, h, hi => by
    have hl : i < ds.length := by
      have := congrArg List.length e
      rw [List.length_drop, List.length_cons] at this
      omega
    have e2 := List.drop_eq_getElem_cons hl
    rw [e] at e2
    injection e2 with e3 e4
    exact step i d r _ (by rw [List.getElem?_eq_getElem hl, e3]) h fun r' hr' => forD_go I done step es (i + 1) r' e4.symm hr' (by omega)
theorem forD_run {gd : TDG} {tb : TDS} {E : EnD} {ds : List Da} (I : Nat → En → Prop) {r : En} (start : I 0 r) (done : ∀ r, I ds.length r → E.nx r)
    (step : ∀ i d r (nx : En → Prop), ds[i]? = some d → I i r → (∀ r', I (i + 1) r' → nx r') → gd d r fun r1 => tb { E with nx := nx, ct := nx, bk := E.nx } r1) : forD gd tb E ds r :=
  forD_go I done step ds 0 r rfl start (Nat.zero_le _)

/-! ### sorted texts -/
theorem srt_strs {a : List Str} : ∃ b : List Str, srt (a.map .str) = b.map .str ∧ b.Perm a := by
  have p : (srt (a.map .str)).Perm (a.map .str) := List.mergeSort_perm _ _
  have q : ∀ (l : List Da), (∀ d ∈ l, ∃ t, d = .str t) → ∃ b : List Str, l = b.map .str := by
    intro l
    induction l with
    | nil => intro _; exact ⟨[], rfl⟩
    | cons d l ih =>
      intro h
      obtain ⟨t, rfl⟩ := h d List.mem_cons_self
      obtain ⟨b, rfl⟩ := ih fun e he => h e (List.mem_cons_of_mem _ he)
      exact ⟨t :: b, rfl⟩
  obtain ⟨b, e⟩ := q (srt (a.map .str)) fun d hd => by
    obtain ⟨t, _, rfl⟩ := List.mem_map.mp (p.mem_iff.mp hd)
    exact ⟨t, rfl⟩
  refine ⟨b, e, ?_⟩
  rw [e] at p
  have z := p.filterMap (fun d => match d with | .str t => some t | _ => none)
  rw [List.filterMap_map, List.filterMap_map] at z
  have f : ∀ l : List Str, l.filterMap ((fun d => match d with | .str t => some t | _ => none) ∘ Da.str) = l := by
    intro l
    induction l with
    | nil => rfl
    | cons x xs ih => rw [List.filterMap_cons]; exact congrArg (x :: ·) ih
  rw [f, f] at z
  exact z
theorem srtOk_strs {a : List Str} (h : a.length ≤ 16777216) : srtOk (a.map .str) := by
  refine ⟨canP_strs a, ?_, .inr ?_, ?_, by rw [List.length_map, sizeLine_eq]; exact h⟩
  · intro d hd d' hd'
    rw [List.map_map] at hd hd'
    obtain ⟨t, _, rfl⟩ := List.mem_map.mp hd
    obtain ⟨t', _, rfl⟩ := List.mem_map.mp hd'
    show PySem.W.alike (toP (.str t)) (toP (.str t')) = true
    rw [toP, toP]
    rfl
  · intro d hd
    rw [List.map_map] at hd
    obtain ⟨t, _, rfl⟩ := List.mem_map.mp hd
    show toP (.str t) ≠ .none ∧ ∀ xs, toP (.str t) ≠ .tuple xs
    rw [toP]
    exact ⟨(fun z => by cases z), (fun xs z => by cases z)⟩
  · intro d hd
    obtain ⟨t, _, rfl⟩ := List.mem_map.mp hd
    rw [toP, PyData.depth]
    exact Nat.zero_le _
/-! ### from nothing -/
theorem lcD_all0 {gd : TDG} {te : TDE} {vs : List Nat} {r : En} {Q : Da → Prop} (F : Da → Da → Prop) (ds : List Da) (hl : ds.length ≤ 16777216)
    (h : ∀ d ∈ ds, ∀ P : Da → Prop, (∀ y, F d y → P y) → gd d (wipeD r vs) fun r2 => te r2 P) (q : ∀ ys, Paired F ds ys → Q (.lst ys)) : lcD gd dYes te vs r Q ds [] :=
  lcD_all F ds [] (by rw [List.length_nil]; omega) h q
theorem lcD_ix0 {gd : TDG} {te : TDE} {vs : List Nat} {r : En} {Q : Da → Prop} (ds res : List Da) (e : res.length = ds.length) (hl : ds.length ≤ 16777216)
    (h : ∀ (k : Nat) (h1 : k < ds.length) (h2 : k < res.length) (P : Da → Prop), P res[k] → gd ds[k] (wipeD r vs) fun r2 => te r2 P) (q : Q (.lst res)) : lcD gd dYes te vs r Q ds [] :=
  lcD_ix ds res [] e (by rw [List.length_nil]; omega) h q
end Pd
/-! The head of a law whose promise is told with the guards (FnG): it is called with nothing tracked but the script. -/
namespace Pd
open PySem PySem.Spec PyProof.Rows L2

theorem ints_vals {ns : List Int} {us : List Value} (h : IntsAre us ns) : Vals (ns.map V.int) us := by
  induction h with
  | nil => exact .nil
  | cons n t _ ih => exact .cons ⟨t, rfl⟩ ih

/-- what the caller wants of the answer -/
abbrev Told (s1 : Shared) : Result → Shared → Prop := fun r s2 => r = .ok (.ret (.bool true)) ∧ OldK s1.heap s2.heap ∧ s2.os = s1.os ∧ AllBare s2.gens

section
variable {P : Program} {wd : World} {K : PySem.W.Frag} {mg mb : Str → Option Value} {k : Nat} {fa a : Addr} {fd : FuncData} {x : Str} {sp : Sp} {s1 : Shared} {us : List Value} {ns : List Int}
theorem top_in (inK : K.In s1.heap) (gl : s1.heap.Ns mainGlobals mg) (bu : s1.heap.Ns builtinsNs mb) (bo : ∀ y : Str, y ≠ "__name__" → mb y = bootBuiltins y) (nl : s1.heap.NoLimit) (g0 : s1.gens = #[])
    (at_a : s1.heap.get? a = some { cls := .type "list", data := .seq us.toArray }) (room : Room k callerA)
    (F : ∀ base : Heap, K.In base → base.Ns mainGlobals mg → FnG P wd K mg base CX0 k fa fd [x] sp) (bd : ∀ (s : Shared) (u : Value), BindsTo s fd ⟨[u], []⟩ [(x, u)])
    (pre : ∀ H : Hp, SqL K H a (ns.map V.int) → sp [.ref a] H (fun v _ => v = .bl true) fun _ _ _ => False)
    (H : Hp) (script : SqL K H a (ns.map V.int)) (fits : HOk P wd H s1.heap) (sole : ∀ b u, H b = some u → b = a ∧ K.lookup a = none ∧ ∃ o xs, u = .frz o (.lst xs)) :
    codeAny (model P wd) callerA (.call (.ref fa) ⟨[.ref a], []⟩) (Told s1) s1 := by
  have plain : ∀ {b : Addr}, b ≠ a → H b = none := fun {b} n => by
    cases e : H b with
    | none => rfl
    | some u => exact absurd (sole b u e).1 n
  have seen : ∀ {b : Addr} {m : Str → Option Value}, s1.heap.Ns b m → (hidT s1.heap H).Ns b m := by
    rintro b m ⟨o, es, ep, at_b, isd, rest⟩
    refine ⟨o, es, ep, hidT_get at_b (plain fun z => ?_), isd, rest⟩
    rw [z] at at_b
    have eo := Option.some.inj (at_a.symm.trans at_b)
    rw [← eo] at isd
    cases isd
  have inB : K.In (hidT s1.heap H) := fun b o at_b => by
    refine hidT_get (inK b o at_b) ?_
    cases e : H b with
    | none => rfl
    | some u =>
      obtain ⟨z1, z2, _⟩ := sole b u e
      rw [z1, z2] at at_b
      cases at_b
  have lim : (hidT s1.heap H).NoLimit := by
    obtain ⟨mc, q1, q2⟩ := nl
    exact ⟨mc, seen q1, q2⟩
  have start0 : Env0 P wd K mg (hidT s1.heap H) callerA [] s1 H :=
    ⟨rfl, ⟨inB, seen gl, ⟨mb, seen bu, bo⟩, lim⟩, fun b o e => of_hidT e, Nat.le_of_eq (hidT_size _ _), trivial, fun b z => absurd (show b ∈ ([] : List Addr) from z) List.not_mem_nil, fits, .of_eq g0⟩
  have all := (F _ inB (seen gl)).goes callerA [] s1 H ⟨[.ref a], []⟩ [.ref a] [.ref a] _ _ room rfl start0 (bd s1 (.ref a)) (.cons rfl .nil) (pre H script)
  refine codeAny_mono all ?_
  rintro (e | fl) s2 out
  · exact False.elim out
  · match fl, out with
    | .next, out => exact out.elim
    | .brk, out => exact out.elim
    | .cont, out => exact out.elim
    | .ret u, out =>
      obtain ⟨v, H2, sameOs, bare, un, fits2, rel, yes⟩ := out
      have yes' : v = .bl true := yes
      subst yes'
      have eu : u = Value.bool true := rel
      subst eu
      refine ⟨rfl, OldK.of_keep ?_, sameOs, bare⟩
      intro b o at_b
      cases e : H b with
      | none => exact un.keep b o at_b e (fun z => List.not_mem_nil (show b ∈ ([] : List Addr) from z)) (by simp)
      | some u =>
        obtain ⟨_, _, o', xs, z⟩ := sole b u e
        rw [z] at e
        have t1 := (fits b _ e).1
        have t2 := (fits2 b _ (un.frzs b o' _ e)).1
        rw [at_b] at t1
        rw [Option.some.inj t1]
        exact t2
theorem top_call (inK : K.In s1.heap) (gl : s1.heap.Ns mainGlobals mg) (bu : s1.heap.Ns builtinsNs mb) (bo : ∀ y : Str, y ≠ "__name__" → mb y = bootBuiltins y) (nl : s1.heap.NoLimit) (g0 : s1.gens = #[])
    (at_a : s1.heap.get? a = some { cls := .type "list", data := .seq us.toArray }) (iv : IntsAre us ns) (le : ns.length ≤ sizeLine) (room : Room k callerA)
    (F : ∀ base : Heap, K.In base → base.Ns mainGlobals mg → FnG P wd K mg base CX0 k fa fd [x] sp) (bd : ∀ (s : Shared) (u : Value), BindsTo s fd ⟨[u], []⟩ [(x, u)])
    (pre : ∀ H : Hp, SqL K H a (ns.map V.int) → sp [.ref a] H (fun v _ => v = .bl true) fun _ _ _ => False) :
    codeAny (model P wd) callerA (.call (.ref fa) ⟨[.ref a], []⟩) (Told s1) s1 := by
  have rel := ints_vals iv
  have hl := iv.length
  cases e : K.lookup a with
  | some o =>
    have t := inK a o e
    rw [at_a] at t
    cases t
    refine top_in inK gl bu bo nl g0 at_a room F bd pre (fun _ => none) (.inr ⟨_, us.toArray, _, e, rfl, rfl, rfl, ?_, ?_⟩) (fun b u z => ?_) (fun b u z => ?_)
    · rw [List.size_toArray, hl]
      exact le
    · simpa using rel
    · cases (show (none : Option HO) = some u from z)
    · cases (show (none : Option HO) = some u from z)
  | none =>
    have only : ∀ b u, (if b = a then some (HO.frz { cls := .type "list", data := .seq us.toArray } (.lst (ns.map V.int))) else none) = some u → b = a ∧ u = HO.frz { cls := .type "list", data := .seq us.toArray } (.lst (ns.map V.int)) := fun b u z => by
      by_cases q : b = a
      · rw [if_pos q] at z
        exact ⟨q, (Option.some.inj z).symm⟩
      · rw [if_neg q] at z
        cases z
    refine top_in inK gl bu bo nl g0 at_a room F bd pre (fun b => if b = a then some (.frz { cls := .type "list", data := .seq us.toArray } (.lst (ns.map V.int))) else none) (.inl (.inr ⟨_, if_pos rfl⟩)) (fun b u z => ?_) (fun b u z => ?_)
    · obtain ⟨q1, q2⟩ := only b u z
      subst q1 q2
      exact ⟨at_a, by rw [List.length_map]; exact le, us, _, rel, at_a⟩
    · obtain ⟨q1, q2⟩ := only b u z
      exact ⟨q1, e, _, _, q2⟩
end
/-- the goal that is left for the law's promise -/
theorem top_walk {l : PySem.W.OpenLaw} {n k : Nat} {q : Program} {loose : List Str} {XP : (Str → Option Value) → Heap → Prop} {YP : World → Heap → Prop} {d : DefRec} {K : Params → PySem.W.Frag} {sp : World → Sp} {x : Str}
    (most : l.most = some n) (le : n ≤ sizeLine) (nodef : d.params.defaults = []) (room : Room k callerA) (inY : ∀ (w : World) (h : Heap), YP w h → (K w.params).In h)
    (F : ∀ (w : World) (mg : Str → Option Value) (fa : Addr) (h : Heap), (K w.params).In h → h.Ns mainGlobals mg → mg d.name = some (.ref fa) →
      ∃ fd : FuncData, (∀ (s : Shared) (u : Value), BindsTo s fd ⟨[u], []⟩ [(x, u)]) ∧ ∀ base : Heap, (K w.params).In base → base.Ns mainGlobals mg → FnG l.prog w (K w.params) mg base CX0 k fa fd [x] (sp w))
    (pre : ∀ (w : World) (H : Hp) (a : Addr) (ns : List Int), ns.length ≤ n → SqL (K w.params) H a (ns.map V.int) → sp w [.ref a] H (fun v _ => v = .bl true) fun _ _ _ => False) :
    PySem.W.WalkO q loose XP YP l.row.toRowW d [] (fun f vs => PySem.call f vs) := by
  apply Att.attach_call most nodef
  intro w s0 s1 mg mb fa o pm cd doc a us ns G Y at_f isf hc at_x at_a iv hl g0
  obtain ⟨fd, bd, prom⟩ := F w mg fa s1.heap (inY w _ Y) G.T.g at_x
  exact top_call (inY w _ Y) G.T.g G.T.b G.T.builtins G.T.nolimit g0 at_a iv (Nat.le_trans hl le) room prom bd fun H script => pre w H a ns hl script
/-- a def by what the top has written -/
theorem defAt_mk {K : PySem.W.Frag} {mg : Str → Option Value} {h : Heap} {x : Str} {st : Stmt} {ps : List Str} {f : Addr} {oc kV dc pm cd ct : Value} {od an : Option Addr} {sl : Array (Option Value)} (inK : K.In h) (gl : h.Ns mainGlobals mg)
    (a : PySem.W.nsIn K mainGlobals x = some (some (.ref f))) (l : K.lookup f = some ⟨oc, od, .func (PySem.W.fnOf x x (defArgs st) (defBody st) (defScope st) .none kV dc pm an cd ct), sl⟩) (c : PySem.W.codeIn K cd x = true) (k : PySem.W.keepIn K (.ref f) = true)
    (b : ∀ (kV doc pm : Value) (an : Option Addr) (cdv ct : Value) (us : List Value), us.length = ps.length → bindArgs (PySem.W.fnOf x x (defArgs st) (defBody st) (defScope st) .none kV doc pm an cdv ct) ⟨us, []⟩ = pure (ps.zip us)) : DefAt K mg x st ps :=
  ⟨f, _, fun_mk l c k, PySem.W.mg_of inK gl a, (fun_mk l c k).binds b⟩
end Pd
/-! Lists of one's own: hidden while they change; opened for a look. -/
namespace Pd
open PySem PySem.Spec PyProof.Rows L2

/-! ### data in which nothing can change -/
mutual
def noL : Da → Bool
  | .non => true
  | .bl _ => true
  | .int _ => true
  | .str _ => true
  | .tup xs => noLs xs
  | .tpw xs => noLs xs
  | .lst _ => false
  | .dct _ => false
  | .bag => false
  | .raw _ => false
  | .fix _ => true
def noLs : List Da → Bool
  | [] => true
  | x :: xs => noL x && noLs xs
end
theorem noLs_all : ∀ xs : List Da, noLs xs = xs.all noL
  | [] => by rw [noLs]; rfl
  | x :: xs => by rw [noLs, noLs_all xs]; rfl
theorem noL_strs (ts : List Str) : noLs (ts.map .str) = true := by
  rw [noLs_all, List.all_map, List.all_eq_true]
  intro x _
  show noL (.str x) = true
  rw [noL]
theorem noL_ints (ts : List Int) : noLs (ts.map .int) = true := by
  rw [noLs_all, List.all_map, List.all_eq_true]
  intro x _
  show noL (.int x) = true
  rw [noL]
section
variable {K : PySem.W.Frag} {g g' : Option Addr} {H H' : Hp}
theorem sqt_sees {a : Addr} {xs : List V} (e : Sees H H') (h : SqT K H a xs) : SqT K H' a xs := by
  rcases h with (h | ⟨o, h⟩) | h
  · exact .inl (.inl (e _ _ h (fun _ z => by cases z) (fun _ z => by cases z)))
  · exact .inl (.inr ⟨o, e _ _ h (fun _ z => by cases z) (fun _ z => by cases z)⟩)
  · exact .inr h
theorem tups_sees {a : Addr} {xs : List V} (e : Sees H H') (h : TupS K H a xs) : TupS K H' a xs := by
  rcases h with ⟨o, h, n⟩ | h
  · exact .inl ⟨o, e _ _ h (fun _ z => by cases z) (fun _ z => by cases z), n⟩
  · exact .inr h
mutual
theorem Dv.sees (e : Sees H H') : ∀ (d : Da) (v : V), noL d = true → Dv K g H v d → Dv K g' H' v d
  | .non, _, _, h => by cases h; exact .non
  | .bl _, _, _, h => by cases h; exact .bl _
  | .int _, _, _, h => by cases h; exact .int _
  | .str _, _, _, h => by cases h; exact .str _
  | .lst ds, _, n, _ => by rw [noL] at n; cases n
  | .tup ds, _, n, h => by
    rw [noL] at n
    cases h with
    | tup h1 h2 => exact .tup (tups_sees e h1) (DvAll.sees e ds _ n h2)
  | .tpw ds, _, n, h => by
    rw [noL] at n
    cases h with
    | tpw h1 h2 => exact .tpw (sqt_sees e h1) (DvAll.sees e ds _ n h2)
  | .dct ds, _, n, _ => by rw [noL] at n; cases n
  | .bag, _, n, _ => by rw [noL] at n; cases n
  | .raw _, _, n, _ => by rw [noL] at n; cases n
  | .fix _, _, _, h => by
    cases h with
    | fix q => exact .fix fun H2 s => q H2 (Sees.trans e s)
theorem DvAll.sees (e : Sees H H') : ∀ (ds : List Da) (vs : List V), noLs ds = true → DvAll K g H vs ds → DvAll K g' H' vs ds
  | [], _, _, h => by cases h; exact .nil
  | d :: ds, _, n, h => by
    rw [noLs, Bool.and_eq_true] at n
    cases h with
    | cons h1 h2 => exact .cons (Dv.sees e d _ n.1 h1) (DvAll.sees e ds _ n.2 h2)
end
end

/-! ### a look at one's own -/
def opS : Sl → Sl
  | .no => .no
  | .dat d => .dat d
  | .own ds => .dat (.lst ds)
  | .reg ds => .dat (.lst ds)
def openE (r : En) : En := r.map opS
/-- a slot with something of one's own -/
def ownS (r : En) (i : Nat) : Prop := (∃ ds, r[i]? = some (.own ds)) ∨ ∃ ds, r[i]? = some (.reg ds)
open Classical in
/-- what stays hidden -/
noncomputable def shut (W : Addr → Bool) (own : Ow) (r : En) : Addr → Bool := fun a => W a && !decide (∃ i, own i a ∧ ownS r i)
section
variable {K : PySem.W.Frag} {w : Wd} {W : Addr → Bool} {own : Ow} {r : En} {σ : L2.St} {H H1 : Hp}
theorem shut_le {a : Addr} (h : shut W own r a = true) : W a = true := by
  unfold shut at h
  rw [Bool.and_eq_true] at h
  exact h.1
theorem shut_own {a : Addr} {i : Nat} (h1 : own i a) (h2 : ownS r i) : shut W own r a = false := by
  unfold shut
  simp only [Bool.and_eq_false_iff, Bool.not_eq_false', decide_eq_true_eq]
  exact .inr ⟨i, h1, h2⟩
theorem shut_not {a : Addr} (h : W a = true) (h2 : shut W own r a = false) : ∃ i, own i a ∧ ownS r i := by
  unfold shut at h2
  rw [h, Bool.true_and, Bool.not_eq_false'] at h2
  simpa using h2
theorem Stt.shutG (S : Stt K w W own r σ H) {a : Addr} (h : w.g = some a) : shut W own r a = true := by
  cases e : shut W own r a with
  | true => rfl
  | false =>
    obtain ⟨i, q, _⟩ := shut_not (S.ok.gW a h) e
    exact absurd h (S.oW i a q).2.2
theorem Stt.opened (S : Stt K w W own r σ H) : Stt K ⟨H, w.g, shut W own r⟩ (shut W own r) (fun _ _ => False) (openE r) σ H := by
  refine ⟨⟨fun a ha => ?_, fun a ha => S.shutG ha, fun a ha => S.ok.al a (shut_le ha)⟩, Ext.refl, fun _ h => h, fun a ha => S.shutG ha, (fun i a h => h.elim), (fun i j a h => h.elim), ?_, fun i d h n => ?_⟩
  · obtain ⟨x, y, z, c, cs, h1, h2⟩ := S.ok.bag a ha
    exact ⟨x, y, z, c, cs, h1, hid_le (fun b hb => shut_le hb) _ _ h2⟩
  · unfold openE
    rw [List.length_map]
    exact S.len
  · unfold openE at h
    rw [List.getElem?_map] at h
    cases e : r[i]? with
    | none => rw [e] at h; cases h
    | some d0 =>
      rw [e] at h
      have h' : opS d0 = d := Option.some.inj h
      subst h'
      have n0 : d0 ≠ .no := fun z => n (by rw [z]; rfl)
      obtain ⟨v, h1, h2⟩ := S.sl i d0 e n0
      refine ⟨v, h1, ?_⟩
      cases d0 with
      | no => exact absurd rfl n0
      | dat d => exact Dv.mono (hid_le fun b hb => shut_le hb) _ _ h2
      | own ds =>
        obtain ⟨a, xs, q1, rfl, q3, q4⟩ := h2
        exact .lst (by rw [hid_no (shut_own q1.1 (.inl ⟨ds, e⟩))]; exact q3) (DvAll.mono (hid_le fun b hb => shut_le hb) _ _ q4)
      | reg ds =>
        obtain ⟨a, xs, q1, rfl, q3, q4⟩ := h2
        refine .lst (by rw [hid_no (shut_own q1 (.inr ⟨ds, e⟩))]; exact q3) (DvAll.mono (fun b o z => ?_) _ _ q4)
        have z := cutAt_le b o z
        by_cases q : own i b
        · rw [vis_own q] at z
          rw [hid_no (shut_own q (.inr ⟨ds, e⟩))]
          exact z
        · rw [vis_not q] at z
          exact hid_le (fun b hb => shut_le hb) _ _ (nom_some z).1
/-- hidden again -/
theorem Stt.shutOk (S : Stt K w W own r σ H) (e : Ext w.g H H1) (k : OkW K w.g (shut W own r) H1) : OkW K w.g W H1 := by
  refine ⟨fun a ha => ?_, S.ok.gW, fun a ha => ?_⟩
  · obtain ⟨x, y, z, c, cs, h1, h2⟩ := k.bag a ha
    obtain ⟨x0, y0, z0, c0, cs0, g1, g2⟩ := S.ok.bag a ha
    obtain ⟨ys, q1, q2⟩ := e.last a _ ha g1
    rw [h1] at q1
    cases q1
    have ec : c = c0 := by
      have := V.ref.inj (Option.some.inj q2)
      exact this
    subst ec
    obtain ⟨f1, f2⟩ := hid_some g2
    exact ⟨x, y, z, c, cs, h1, by rw [hid_no f1]; exact (hid_some h2).2⟩
  · by_cases z : w.g = some a
    · obtain ⟨x, y, z, c, cs, h1, _⟩ := k.bag a z
      exact ⟨_, h1⟩
    · obtain ⟨o, q⟩ := S.ok.al a ha
      exact ⟨o, e a o z q⟩
theorem Stt.seesBack (S : Stt K w W own r σ H) (e : Ext w.g H H1) : Sees (hid (shut W own r) H1) (hid W H1) := fun a o h n1 n2 => by
  obtain ⟨h1, h2⟩ := hid_some h
  cases q : W a with
  | false => rw [hid_no q]; exact h2
  | true =>
    obtain ⟨i, q1, _⟩ := shut_not q h1
    rcases (S.inj i i a q1 q1).2 with ⟨xs, p3⟩ | ⟨xs, p3⟩
    · have := e a _ (S.oW i a q1).2.2 p3
      rw [h2] at this
      exact absurd (Option.some.inj this) (n1 xs)
    · have := e a _ (S.oW i a q1).2.2 p3
      rw [h2] at this
      exact absurd (Option.some.inj this) (n2 xs)
end
section
variable {X : Cx} {w : Wd} {e : Expr}
theorem ptd_open {t : TDT} (h : ∀ w, PTd X w e t) : PTd X w e (fun r Q => t (openE r) Q) := by
  refine ⟨⟨fun pins s σ H Q I q => ?_⟩, fun r Q Q' q z => (h w).mo _ _ _ q z⟩
  obtain ⟨W, own, r, S, z⟩ := q
  refine (h ⟨H, w.g, shut W own r⟩).pt.run pins s σ H Q I ⟨shut W own r, fun _ _ => False, openE r, S.opened, (h w).mo _ _ _ (fun b q H1 e1 k1 => q H1 e1 (S.shutOk e1 k1)) z⟩
theorem ped_open {t : TDE} (h : ∀ w, PEd X w e t) : PEd X w e (fun r Q => t (openE r) fun d => noL d = true ∧ Q d) := by
  refine ⟨⟨fun pins s σ H Q I q => ?_⟩, fun r Q Q' q z => (h w).mo _ _ _ (fun d p => ⟨p.1, q d p.2⟩) z⟩
  obtain ⟨W, own, r, S, z⟩ := q
  refine (h ⟨H, w.g, shut W own r⟩).pe.run pins s σ H Q I ⟨shut W own r, fun _ _ => False, openE r, S.opened, (h w).mo _ _ _ (fun d q v H1 e1 k1 d1 => q.2 v H1 e1 (S.shutOk e1 k1) (Dv.sees (S.seesBack e1) _ _ q.1 d1)) z⟩
end
end Pd
/-! One's own lists: made, lengthened, emptied. -/
namespace Pd
open PySem PySem.Spec PyProof.Rows L2

section
variable {K : PySem.W.Frag} {w : Wd} {W : Addr → Bool} {own : Ow} {r : En} {σ : L2.St} {H H1 : Hp}
theorem hid_upd {W : Addr → Bool} {H : Hp} {a : Addr} {o : HO} (h : W a = true) : hid W (upd H a o) = hid W H := by
  funext b
  unfold hid
  by_cases z : b = a
  · subst z
    rw [if_pos h, if_pos h]
  · rw [upd_ne z]
theorem nothing {H H0 : Hp} {g : Option Addr} {p : Addr} (np : H p = none) (e : Ext g H0 H) (ge : g ≠ some p) : H0 p = none := by
  cases q : H0 p with
  | none => rfl
  | some o =>
    have := e p o ge q
    rw [np] at this
    cases this
/-- what stands at a place of one's own changes: a list stays a list, a dict a dict -/
theorem Stt.putOwn (S : Stt K w W own r σ H) {i : Nat} {a : Addr} {o : HO} {s : Sl} (h1 : own i a) (mo : Mut (upd H a o) a) (ns : s ≠ .no → ∃ v, σ[i]? = some (some v) ∧ SlD K w.g W own (upd H a o) i v s) :
    Stt K w W own (r.set i s) σ (upd H a o) ∧ Grow w.g W H W (upd H a o) := by
  obtain ⟨hW, h0, hg⟩ := S.oW i a h1
  have eq := hid_upd (H := H) (o := o) hW
  refine ⟨⟨⟨fun b hb => ?_, S.ok.gW, fun b hb => ?_⟩, ⟨fun b o n hb => ?_, fun b xs hb hx => ?_⟩, S.w0, S.g0, S.oW, fun j k b q1 q2 => ⟨(S.inj j k b q1 q2).1, ?_⟩, ?_, fun j d h n => ?_⟩, fun b o n wb hb => ?_, fun b hb => ?_, fun b hb => .inl hb⟩
  · obtain ⟨x, y, z, c, cs, q1, q2⟩ := S.ok.bag b hb
    have ne : b ≠ a := fun z => hg (z ▸ hb)
    exact ⟨x, y, z, c, cs, by rw [upd_ne ne]; exact q1, by rw [eq]; exact q2⟩
  · by_cases z : b = a
    · exact ⟨_, by rw [z]; exact upd_same⟩
    · obtain ⟨o, q⟩ := S.ok.al b hb
      exact ⟨o, by rw [upd_ne z]; exact q⟩
  · have ne : b ≠ a := fun z => by rw [z, h0] at hb; cases hb
    rw [upd_ne ne]
    exact S.base b o n hb
  · have ne : b ≠ a := fun z => hg (z ▸ hb)
    rw [upd_ne ne]
    exact S.base.last b xs hb hx
  · by_cases z : b = a
    · rw [z]; exact mo
    · exact (S.inj j k b q1 q2).2.up fun o q => by rw [upd_ne z]; exact q
  · rw [List.length_set]
    exact S.len
  · by_cases hj : j = i
    · subst hj
      have hl : j < r.length := by
        have := (List.getElem?_eq_some_iff.mp h).1
        rwa [List.length_set] at this
      rw [List.getElem?_set_self hl] at h
      cases h
      exact ns n
    · rw [List.getElem?_set_ne (Ne.symm hj)] at h
      obtain ⟨v, q1, q2⟩ := S.sl j d h n
      refine ⟨v, q1, ?_⟩
      cases d with
      | no => exact absurd rfl n
      | dat d =>
        show Dv K w.g (hid W (upd H a o)) v d
        rw [eq]
        exact q2
      | own fs =>
        obtain ⟨b, xs, p1, p2, p3, p4⟩ := q2
        have ne : b ≠ a := fun z => hj (S.inj j i a (z ▸ p1.1) h1).1
        exact ⟨b, xs, p1, p2, by rw [upd_ne ne]; exact p3, by rw [eq]; exact p4⟩
      | reg ds =>
        obtain ⟨b, xs, p1, p2, p3, p4⟩ := q2
        have off : ∀ c, own j c → c ≠ a := fun c q z => hj (S.inj j i a (z ▸ q) h1).1
        refine ⟨b, xs, p1, p2, by rw [upd_ne (off b p1)]; exact p3, DvAll.mono (cutAt_sm (vis_up (fun c o q z => ⟨q, ?_⟩) (by rw [eq]; exact fun _ _ z => z))) _ _ p4⟩
        rw [upd_ne (off c q)]
        exact z
  · have ne : b ≠ a := fun z => by rw [z, hW] at wb; cases wb
    rw [upd_ne ne]
    exact hb
  · by_cases z : b = a
    · rw [z, upd_same]
      intro q
      cases q
    · rw [upd_ne z]
      exact hb
/-- one's own list changes -/
theorem Stt.setOwn (S : Stt K w W own r σ H) {i : Nat} {a : Addr} {ds es : List Da} {ys : List V} (h1 : OnlyOwn own i a) (h2 : r[i]? = some (.own ds)) (dv : DvAll K w.g (hid W H) ys es) :
    Stt K w W own (r.set i (.own es)) σ (upd H a (.lst ys)) ∧ Grow w.g W H W (upd H a (.lst ys)) := by
  refine S.putOwn h1.1 (.inl ⟨_, upd_same⟩) fun _ => ?_
  obtain ⟨v, q1, a', xs, p1, p2, _⟩ := S.sl i _ h2 (fun z => by cases z)
  have ea : a' = a := h1.2 a' p1.1
  rw [ea] at p2
  exact ⟨v, q1, a, ys, h1, p2, upd_same, by rw [hid_upd (S.oW i a h1.1).1]; exact dv⟩
/-- a hidden list or dict that is nobody's becomes that of a slot; what the slot owned is let go -/
theorem Stt.takeOwn (S : Stt K w W own r σ H) (i : Nat) {p : Addr} {xs : List V} {ds : List Da} (Wp : W p = true) (h0 : w.H0 p = none) (ge : w.g ≠ some p) (oN : ∀ j, ¬ own j p) (hp : H p = some (.lst xs)) (dv : DvAll K w.g (hid W H) xs ds) :
    Stt K w W (fun j a => (j = i ∧ a = p) ∨ (j ≠ i ∧ own j a)) (r.set i (.own ds)) (σ.set i (some (.ref p))) H := by
  refine ⟨S.ok, S.base, S.w0, S.g0, fun j a h => ?_, fun j k a q1 q2 => ?_, by rw [List.length_set, List.length_set]; exact S.len, fun j d h n => ?_⟩
  · rcases h with ⟨_, rfl⟩ | h
    · exact ⟨Wp, h0, ge⟩
    · exact S.oW j a h.2
  · rcases q1 with ⟨rfl, rfl⟩ | q1
    · rcases q2 with ⟨rfl, _⟩ | q2
      · exact ⟨rfl, .inl ⟨_, hp⟩⟩
      · exact absurd q2.2 (oN k)
    · rcases q2 with ⟨rfl, rfl⟩ | q2
      · exact absurd q1.2 (oN j)
      · exact S.inj j k a q1.2 q2.2
  · by_cases hj : j = i
    · subst hj
      have hl : j < r.length := by
        have := (List.getElem?_eq_some_iff.mp h).1
        rwa [List.length_set] at this
      rw [List.getElem?_set_self hl] at h
      cases h
      exact ⟨.ref p, by rw [List.getElem?_set_self (by rw [← S.len]; exact hl)], p, xs, ⟨.inl ⟨rfl, rfl⟩, fun b hb => hb.elim (fun z => z.2) fun z => absurd rfl z.1⟩, rfl, hp, dv⟩
    · rw [List.getElem?_set_ne (Ne.symm hj)] at h
      obtain ⟨v, q1, q2⟩ := S.sl j d h n
      refine ⟨v, by rw [List.getElem?_set_ne (Ne.symm hj)]; exact q1, ?_⟩
      cases d with
      | no => exact absurd rfl n
      | dat d => exact q2
      | own fs =>
        obtain ⟨b, zs, p1, p2⟩ := q2
        exact ⟨b, zs, ⟨.inr ⟨hj, p1.1⟩, fun c hc => hc.elim (fun z => absurd z.1 hj) fun z => p1.2 c z.2⟩, p2⟩
      | reg ds =>
        obtain ⟨b, zs, p1, p2, p3, p4⟩ := q2
        exact ⟨b, zs, .inr ⟨hj, p1⟩, p2, p3, DvAll.mono (cutAt_sm (vis_up (fun a o q z => ⟨.inr ⟨hj, q⟩, z⟩) fun _ _ z => z)) _ _ p4⟩
/-- a new thing at p is hidden -/
theorem Stt.hideO (S : Stt K w W own r σ H) {p : Addr} {o : HO} (np : H p = none) : Stt K w (Pd.hideD W p) own r σ (upd H p o) ∧ Grow w.g W H (Pd.hideD W p) (upd H p o) ∧ Sm (hid W H) (hid (Pd.hideD W p) (upd H p o)) ∧ w.g ≠ some p ∧ w.H0 p = none ∧ ∀ j, ¬ own j p := by
  have ge : w.g ≠ some p := fun z => by
    obtain ⟨o, q⟩ := S.ok.al p (S.ok.gW p z)
    rw [np] at q
    cases q
  have sm : Sm (hid W H) (hid (Pd.hideD W p) (upd H p o)) := fun b o q => by
    obtain ⟨q1, q2⟩ := hid_some q
    have ne : b ≠ p := ne_of_none q2 np
    rw [hid_no (by rw [hideD_ne ne]; exact q1), upd_ne ne]
    exact q2
  have oN : ∀ j, ¬ own j p := fun j z => by
    obtain ⟨o, q⟩ := S.ok.al p (S.oW j p z).1
    rw [np] at q
    cases q
  have old : ∀ j a u, own j a → H a = some u → upd H p o a = some u := fun j a u q z => by rw [upd_ne (ne_of_none z np)]; exact z
  refine ⟨⟨⟨fun b hb => ?_, fun b hb => hideD_le (S.ok.gW b hb), fun b hb => ?_⟩, S.base.trans (Ext.of (sm_upd np)), fun b hb => hideD_le (S.w0 b hb), S.g0, fun j a h => ?_, fun j k a q1 q2 => ⟨(S.inj j k a q1 q2).1, (S.inj j k a q1 q2).2.up fun u z => old j a u q1 z⟩, S.len, fun j d h n => ?_⟩, ⟨fun b o n wb hb => ?_, fun b hb => ?_, fun b hb => ?_⟩, sm, ge, nothing np S.base ge, oN⟩
  · obtain ⟨x, y, z, c, cs, q1, q2⟩ := S.ok.bag b hb
    have ne : b ≠ p := ne_of_none q1 np
    exact ⟨x, y, z, c, cs, by rw [upd_ne ne]; exact q1, sm _ _ q2⟩
  · by_cases z : b = p
    · exact ⟨_, by rw [z]; exact upd_same⟩
    · rw [hideD_ne z] at hb
      obtain ⟨o, q⟩ := S.ok.al b hb
      exact ⟨o, by rw [upd_ne z]; exact q⟩
  · obtain ⟨q1, q2, q3⟩ := S.oW j a h
    exact ⟨hideD_le q1, q2, q3⟩
  · obtain ⟨v, q1, q2⟩ := S.sl j d h n
    refine ⟨v, q1, ?_⟩
    cases d with
    | no => exact absurd rfl n
    | dat d => exact Dv.mono sm _ _ q2
    | own fs =>
      obtain ⟨b, zs, p1, p2, p3, p4⟩ := q2
      exact ⟨b, zs, p1, p2, old j b _ p1.1 p3, DvAll.mono sm _ _ p4⟩
    | reg ds =>
      obtain ⟨b, zs, p1, p2, p3, p4⟩ := q2
      exact ⟨b, zs, p1, p2, old j b _ p1 p3, DvAll.mono (cutAt_sm (vis_up (fun a u q z => ⟨q, old j a u q z⟩) sm)) _ _ p4⟩
  · rw [upd_ne (ne_of_none hb np)]
    exact hb
  · have ne : b ≠ p := fun z => hb (by rw [z]; exact np)
    rw [upd_ne ne]
    exact hb
  · by_cases z : b = p
    · exact .inr (by rw [z]; exact np)
    · rw [hideD_ne z] at hb
      exact .inl hb
/-- a new list becomes one's own -/
theorem Stt.newOwn (S : Stt K w W own r σ H) (i : Nat) {p : Addr} {xs : List V} {ds : List Da} (np : H p = none) (dv : DvAll K w.g (hid W H) xs ds) :
    (∃ own', Stt K w (Pd.hideD W p) own' (r.set i (.own ds)) (σ.set i (some (.ref p))) (upd H p (.lst xs))) ∧ Grow w.g W H (Pd.hideD W p) (upd H p (.lst xs)) := by
  obtain ⟨S1, gr, sm, ge, h0, oN⟩ := S.hideO (o := .lst xs) np
  exact ⟨⟨_, S1.takeOwn i hideD_at h0 ge oN upd_same (DvAll.mono sm _ _ dv)⟩, gr⟩
end

section
variable {X : Cx} {w : Wd} {e : Expr} {es : List Expr} {te : TDE}
/-- an expression whose value is a new list -/
structure PFd (X : Cx) (w : Wd) (e : Expr) (t : TDA) : Prop where
  pe : PE X e (fun σ H Q => ∃ W own r, Stt X.K w W own r σ H ∧ t r fun ds => ∀ p xs H1, Ext w.g H H1 → OkW X.K w.g W H1 → H1 p = none → DvAll X.K w.g (hid W H1) xs ds → Q (.ref p) (upd H1 p (.lst xs)))
  mo : ∀ r Q Q', (∀ ds, Q ds → Q' ds) → t r Q → t r Q'
theorem pfd_lst {t : TDA} {pos : Pos} (h : PAd X w es t) : PFd X w (.List es pos) (fun r Q => t r fun ds => ds.length ≤ sizeLine ∧ Q ds) := by
  refine ⟨weE (pe_lst h.pa) ?_, fun r Q Q' q z => h.mo _ _ _ (fun ds z => ⟨z.1, q _ z.2⟩) z⟩
  rintro σ H Q ⟨W, own, r, S, z⟩
  refine goA h S z fun xs vs H1 e1 k1 d1 z => ⟨by rw [d1.len]; exact z.1, fun p np => z.2 p vs H1 e1 k1 np d1⟩
def dSetF (t : TDA) (i : Nat) : TDS := fun E r => t r fun ds => E.nx (r.set i (.own ds))
theorem psd_setF {i : Nat} {x : Str} {pos pos' : Pos} {t : TDA} (he : PFd X w e t) (hN : X.N.Nodup) (hi : X.N[i]? = some x := by rfl) (hx : Loc X.env.scope x := by first | exact .inl rfl | exact .inr rfl) (hs : swapsWith e (some (.Name x pos')) pos.line X.env = pure false := by rfl)
    (hf : X.fn x = true ∨ X.env.scope.names.lookup x = some .local := by first | exact .inl rfl | exact .inr rfl) : PSd X w (.Assign [.Name x pos'] e pos) (dSetF t i) := by
  refine ⟨weS (ps_set hN hi hx he.pe hs hf) ?_, fun E E' r l h => he.mo _ _ _ (fun d => l.nx _) h⟩
  rintro D σ H ⟨W, own, r, S, h⟩
  refine ⟨W, own, r, S, he.mo _ _ _ (fun ds z p xs H1 e1 k1 np dv => ?_) h⟩
  have S1 := S.ext e1 k1
  obtain ⟨⟨own', S'⟩, gr⟩ := S1.newOwn i np dv
  exact z _ own' _ _ ((Grow.of k1 e1).trans gr) S'
def dApp (i : Nat) (te : TDE) : TDS := fun E r => ∃ ds, r[i]? = some (.own ds) ∧ te r fun d => ds.length < sizeLine ∧ E.nx (r.set i (.own (ds ++ [d])))
theorem psd_app {i : Nat} {x : Str} {p apos cpos pos : Pos} (he : PEd X w e te) (hN : X.N[i]? = some x := by rfl) (hv : Vis X.env.scope x := by first | exact Or.inl rfl | exact Or.inr (Or.inl rfl) | exact Or.inr (Or.inr rfl)) (hd : (x == ("__debug__" : Str)) = false := by decide) (hcd : (x == ("__classdict__" : Str)) = false := by decide)
    (hbase : attributeBase (.Name x p) "append" X.env (eval (.Name x p) X.env) = eval (.Name x p) X.env := by rfl)
    (hfew : ((backTo cpos (starEach [e] X.env)).all (fun x => !x.1) && (backToKw cpos (keywordEach [] X.env)).all (fun x => x.1.isSome) && decide (([e] : List Expr).length + ([] : List Keyword).length + (if ([] : List Keyword).isEmpty then 0 else 1) < 30)) = true := by rfl)
    (hline : (apos.endLine == cpos.line) = true := by rfl) (hst : starEach [e] X.env = (false, eval e X.env) :: starEach [] X.env := by rfl) (hpl : (backTo cpos (starEach [] X.env)).any (·.1) = false := by rfl)
    (hs : swapsWith (.Call (.Attribute (.Name x p) "append" apos) [e] [] cpos) none pos.line X.env = pure false := by rfl) :
    PSd X w (.Expr (.Call (.Attribute (.Name x p) "append" apos) [e] [] cpos) pos) (dApp i te) := by
  refine ⟨weS (ps_expr (pe_bm PySem.F.plainAttrs_list PySem.F.slot_list_append PySem.F.type_list_append mt_append (pv i hN hv hd hcd) (pa_cons he.pe pa_nil hst) hbase hfew hline hst hpl) hs) ?_, fun E E' r l ⟨ds, a, h⟩ => ⟨ds, a, he.mo _ _ _ (fun d z => ⟨z.1, l.nx _ z.2⟩) h⟩⟩
  rintro D σ H ⟨W, own, r, S, ds, hr, h⟩
  obtain ⟨v, hv, a, xs, o1, rfl, o3, o4⟩ := S.sl i _ hr (fun z => by cases z)
  refine ⟨.ref a, hv, .inl ⟨rfl, _, SqL.of o3⟩, ?_⟩
  refine go1 he S h fun d v H1 e1 k1 d1 z => ?_
  have S1 := S.ext e1 k1
  obtain ⟨v', hv', a', xs', q1, q2, q3, q4⟩ := S1.sl i _ hr (fun z => by cases z)
  cases o1.2 _ q1.1
  obtain ⟨S', gr⟩ := S1.setOwn (ys := xs' ++ [v]) (es := ds ++ [d]) o1 hr (q4.app (.cons d1 .nil))
  exact ⟨a, xs', v, rfl, rfl, q3, by rw [q4.len]; exact z.1, z.2 W own σ _ ((Grow.of k1 e1).trans gr) S'⟩
end
end Pd
namespace Pd
open PySem PySem.Spec PyProof.Rows L2 Tx

/-! ### sets of texts as values -/
def TxO (P : Program) (w : World) (a : Addr) (l : List Str) : HO := .ext fun h => TxR P w h a l
theorem txO_new {P : Program} {w : World} {H : Hp} {h : Heap} {a : Addr} {l : List Str} (R : TxR P w h a l) : ObjOk P w H h a (TxO P w a l) := by
  obtain ⟨D, q, _⟩ := R.ex
  exact ⟨R, ⟨_, q⟩, fun h1 h2 p k => p.at k⟩
section
variable {X : Cx}
def rSetTx (P : Program) (w : World) (K : PySem.W.Frag) : List V → Hp → VK → Prop := fun vs H Q => ∃ (b : Addr) (ks : List Str), vs = [.ref b] ∧ SqT K H b (ks.map V.str) ∧ ks.length ≤ 1000 ∧ ∀ p, H p = none → Q (.ref p) (upd H p (TxO P w p (ded ks)))
theorem cr_setTx (hc : X.calm = true) : CallR X (.type "set") (rSetTx X.prog X.w X.K) := by
  intro pins s σ H vs us Q I r h
  obtain ⟨b, ks, rfl, hT, few, q⟩ := h
  obtain ⟨its, rv, pl, _⟩ := I.tuple hT
  rw [Vals.ref1 r]
  refine set_tup (I.ok.hd hc) pl (by simpa using rv.strs) (by unfold scanBound; omega) fun h2 tk T keep => ?_
  have hn : H s.heap.objs.size = none := I.hok.fresh (Nat.le_refl _)
  have J : Inv X pins σ (upd H s.heap.objs.size (TxO X.prog X.w s.heap.objs.size (ded ks))) { s with heap := h2, toks := tk } :=
    I.call (ch := []) (Un.laid keep (Nat.le_refl _) hn) (I.hok.laid keep (Nat.le_refl _) (txO_new T)) I.bare (fun _ z => nomatch z)
  exact ⟨.ref s.heap.objs.size, _, J, rfl, q _ hn⟩
def rSortedTx (P : Program) (w : World) : List V → Hp → VK → Prop := fun vs H Q => ∃ (a : Addr) (l : List Str), vs = [.ref a] ∧ H a = some (TxO P w a l) ∧ l.length < 64 ∧
  ∀ ks p, ks.Perm l → ks.Nodup → sortedS ks = true → H p = none → Q (.ref p) (upd H p (.lst (ks.map V.str)))
theorem cr_sortedTx (hc : X.calm = true) : CallR X (.builtin "sorted") (rSortedTx X.prog X.w) := by
  intro pins s σ H vs us Q I r h
  obtain ⟨a, l, rfl, ha, few, q⟩ := h
  have R : TxR X.prog X.w s.heap a l := (I.hok a _ ha).1
  rw [Vals.ref1 r]
  refine sorted_tx R (I.ok.hd hc) few fun s2 p out c ks keep g o big hp are pm srt => ?_
  have hn : H p = none := I.hok.fresh big
  have lk : (ks.map V.str).length ≤ sizeLine := by rw [List.length_map, pm.length_eq, sizeLine_eq]; omega
  have J : Inv X pins σ (upd H p (.lst (ks.map V.str))) { s with heap := s2.heap, gens := s2.gens, drawn := s2.drawn, toks := s2.toks } :=
    I.call (ch := []) (Un.laid keep big hn) (I.hok.laid keep big ⟨lk, out.toList, c, vals_of_strs are, hp⟩) (by rw [g]; exact I.bare) (fun _ z => nomatch z)
  have e : s2 = { s with heap := s2.heap, gens := s2.gens, drawn := s2.drawn, toks := s2.toks } := by
    cases s2; cases s; cases o; rfl
  rw [e]
  exact ⟨.ref p, _, J, rfl, q ks p pm (pm.nodup_iff.mpr R.nd) srt hn⟩
def rLenTx (P : Program) (w : World) : List V → Hp → VK → Prop := fun vs H Q => ∃ (a : Addr) (l : List Str), vs = [.ref a] ∧ H a = some (TxO P w a l) ∧ l.length < 64 ∧ Q (.int (l.length : Nat)) H
theorem cr_lenTx : CallR X (.builtin "len") (rLenTx X.prog X.w) := by
  intro pins s σ H vs us Q I r h
  obtain ⟨a, l, rfl, ha, few, q⟩ := h
  have R : TxR X.prog X.w s.heap a l := (I.hok a _ ha).1
  rw [Vals.ref1 r]
  exact len_tx R (by omega) ⟨.int (l.length : Nat), H, I.tok _, ⟨_, rfl⟩, q⟩
end
end Pd
/-! isinstance, chains, in, names of the module, sets of texts. -/
namespace Pd
open PySem PySem.Spec PyProof.Rows L2 Tx

/-! ### isinstance -/
def tyD : Da → Option String
  | .non => some "NoneType"
  | .bl _ => some "bool"
  | .int _ => some "int"
  | .str _ => some "str"
  | .lst _ => some "list"
  | .tup _ => some "tuple"
  | .tpw _ => some "tuple"
  | .dct _ => some "dict"
  | .bag => none
  | .raw _ => none
  | .fix _ => none
theorem tyD_x {K : PySem.W.Frag} {g : Option Addr} {W : Addr → Bool} {H : Hp} {v : V} {d : Da} {t : String} (h : Dv K g (hid W H) v d) (e : tyD d = some t) : TyX K H v (.type t) := by
  cases d with
  | non => cases h; cases e; exact .base .non
  | bl b => cases h; cases e; exact .base (.bl _)
  | int i => cases h; cases e; exact .base (.int _)
  | str x => cases h; cases e; exact .base (.str _)
  | lst ds =>
    cases h with
    | lst h1 _ => cases e; exact .base (.lst (hid_some h1).2)
  | tup ds =>
    cases h with
    | tup h1 _ =>
      cases e
      rcases h1 with ⟨o, h1, _⟩ | ⟨o, its, n, h1, h2, _⟩
      · exact .fTuple (hid_some h1).2
      · exact .kTuple h1 h2
  | tpw ds =>
    cases h with
    | tpw h1 _ =>
      cases e
      rcases h1 with (h1 | ⟨o, h1⟩) | ⟨o, its, n, h1, h2, _⟩
      · exact .base (.tup (hid_some h1).2)
      · exact .fTuple (hid_some h1).2
      · exact .kTuple h1 h2
  | dct ds =>
    cases h with
    | dct h1 _ => cases e; exact .base (.dK (hid_some h1).2)
  | bag => cases e
  | raw v => cases e
  | fix v => cases e
section
variable {X : Cx} {w : Wd} {a b c e : Expr} {es : List Expr} {ta tb tc te : TDE} {pos : Pos}
def dIsi (T : String) (te : TDE) : TDE := fun r Q => te r fun x => ∃ t y, tyD x = some t ∧ kitB t T = some y ∧ Q (.bl y)
theorem ped_isi {T : String} {x : Str} {p p2 : Pos} (hm : X.mg "isinstance" = none) (he : PEd X w e te) (hx : X.mg x = none) (hv : bootBuiltins x = some (.type T)) (hn : x ≠ "__name__" := by decide) (hd : (x == ("__debug__" : Str)) = false := by decide) (hg : Gl X "isinstance" := by rfl) (hgx : Gl X x := by rfl)
    (st : starEach [e, .Name x p2] X.env = (false, eval e X.env) :: starEach [.Name x p2] X.env := by rfl) (st2 : starEach [.Name x p2] X.env = (false, eval (.Name x p2) X.env) :: starEach [] X.env := by rfl) (hpl : (backTo pos (starEach [.Name x p2] X.env)).any (·.1) = false := by rfl) :
    PEd X w (.Call (.Name "isinstance" p) [e, .Name x p2] [] pos) (dIsi T te) := by
  refine ⟨weE (pe_callB call_isi hg hm (by decide +kernel) (pa_cons he.pe (pa_cons (pe_bltn (v := .ty T) hgx hx hv rfl hn hd) pa_nil st2) st) (by decide) (by decide) (by exact st) (by exact hpl)) ?_, fun r Q Q' q h => he.mo _ _ _ (fun d ⟨t, y, h1, h2, h3⟩ => ⟨t, y, h1, h2, q _ h3⟩) h⟩
  rintro σ H Q ⟨W, own, r, S, z⟩
  refine go1 he S z fun d v H1 e1 k1 d1 ⟨t, y, h1, h2, h3⟩ => ?_
  exact ⟨v, .ty T, .type t, .type T, y, rfl, .ty T, tyD_x d1 h1, kit_ty h2, h3 (.bl y) H1 e1 k1 (.bl y)⟩

/-! ### chains -/
def dChain (D D' : DD) (ta tb tc : TDE) : TDE := fun r Q => ta r fun x => tb r fun y => D x y fun z => ∃ k, z = .bl k ∧ if k = true then tc r fun u => D' y u Q else Q (.bl false)
theorem ped_chain {op op' : CmpOp} {R R' : R2} {D D' : DD} (ho : OpR X (compareOp op) R) (ho' : OpR X (compareOp op') R') (m : Mo2 D) (m' : Mo2 D') (br : Br2 X.K R D) (br' : Br2 X.K R' D') (ha : PEd X w a ta) (hb : PEd X w b tb) (hc : PEd X w c tc)
    (hm : lastMarks [op, op'] [b, c] = false := by with_unfolding_all rfl) : PEd X w (.Compare a [op, op'] [b, c] pos) (dChain D D' ta tb tc) := by
  refine ⟨weE (pe_chain ho ho' ha.pe hb.pe hc.pe hm) ?_, fun r Q Q' q h => ha.mo _ _ _ (fun x => hb.mo _ _ _ fun y => m _ _ _ _ fun z ⟨k, h1, h2⟩ => ⟨k, h1, ite_mo (hc.mo _ _ _ fun u => m' _ _ _ _ q) (q _) h2⟩) h⟩
  rintro σ H Q ⟨W, own, r, S, z⟩
  refine go1 ha S z fun x v H1 e1 k1 d1 z => ?_
  refine go1 hb (S.ext e1 k1) z fun y u H2 e2 k2 d2 z2 => ?_
  refine br w.g W H2 v u x y _ k2 (Dv.mono (e2.hid k1.gW) _ _ d1) d2 (m _ _ _ _ (fun z3 h v3 H3 e3 k3 d3 => ?_) z2)
  obtain ⟨k, rfl, h⟩ := h
  cases d3
  refine ⟨k, rfl, ite_mo (fun h => ?_) (fun h => ?_) h⟩
  · refine go1 hc (((S.ext e1 k1).ext e2 k2).ext e3 k3) h fun x4 v4 H4 e4 k4 d4 z4 => ?_
    refine br' w.g W H4 u v4 y x4 Q k4 (Dv.mono ((e3.trans e4).hid k2.gW) _ _ d2) d4 (m' _ _ _ _ (fun d q => q.then (e1.trans (e2.trans (e3.trans e4)))) z4)
  · exact h (.bl false) H3 (e1.trans (e2.trans e3)) k3 (.bl false)
theorem ped_ltle (ha : PEd X w a ta) (hb : PEd X w b tb) (hc : PEd X w c tc) (hm : lastMarks [.Lt, .LtE] [b, c] = false := by with_unfolding_all rfl) : PEd X w (.Compare a [.Lt, .LtE] [b, c] pos) (dChain ltD leD ta tb tc) := ped_chain (op_lt.or op_lt_str) (op_le.or op_le_str) ordD_mo ordD_mo ordD_br ordD_br ha hb hc hm
theorem ped_lele (ha : PEd X w a ta) (hb : PEd X w b tb) (hc : PEd X w c tc) (hm : lastMarks [.LtE, .LtE] [b, c] = false := by with_unfolding_all rfl) : PEd X w (.Compare a [.LtE, .LtE] [b, c] pos) (dChain leD leD ta tb tc) := ped_chain (op_le.or op_le_str) (op_le.or op_le_str) ordD_mo ordD_mo ordD_br ordD_br ha hb hc hm
theorem ped_lelt (ha : PEd X w a ta) (hb : PEd X w b tb) (hc : PEd X w c tc) (hm : lastMarks [.LtE, .Lt] [b, c] = false := by with_unfolding_all rfl) : PEd X w (.Compare a [.LtE, .Lt] [b, c] pos) (dChain leD ltD ta tb tc) := ped_chain (op_le.or op_le_str) (op_lt.or op_lt_str) ordD_mo ordD_mo ordD_br ordD_br ha hb hc hm
theorem ped_ltlt (ha : PEd X w a ta) (hb : PEd X w b tb) (hc : PEd X w c tc) (hm : lastMarks [.Lt, .Lt] [b, c] = false := by with_unfolding_all rfl) : PEd X w (.Compare a [.Lt, .Lt] [b, c] pos) (dChain ltD ltD ta tb tc) := ped_chain (op_lt.or op_lt_str) (op_lt.or op_lt_str) ordD_mo ordD_mo ordD_br ordD_br ha hb hc hm

/-! ### in -/
/-- a text in a list or tuple of texts -/
def inStrsD (neg : Bool) : DD := fun x y Q => ∃ (t : Str) (ts : List Str), x = .str t ∧ seqOf y = some (ts.map .str) ∧ Q (.bl (if neg then !decide (t ∈ ts) else decide (t ∈ ts)))
theorem inStrsD_mo {n : Bool} : Mo2 (inStrsD n) := fun _ _ _ _ q ⟨t, ts, a, b, h⟩ => ⟨t, ts, a, b, q _ h⟩
theorem inV_strs {t : Str} {ts : List Str} : inV (.str t) (ts.map V.str) = decide (t ∈ ts) := by
  rw [Bool.eq_iff_iff, decide_eq_true_eq]
  unfold inV
  rw [List.any_eq_true]
  constructor
  · rintro ⟨y, hy, e⟩
    obtain ⟨s, hs, rfl⟩ := List.mem_map.mp hy
    have : s = t := by simpa [eqV] using e
    rw [← this]
    exact hs
  · intro h
    exact ⟨.str t, List.mem_map.mpr ⟨t, h, rfl⟩, by simp [eqV]⟩
theorem inStrs_br {neg : Bool} : Br2 X.K (rIn X.K neg) (inStrsD neg) := by
  rintro g W H v u x y Q k dx dy ⟨t, ts, rfl, hs, h⟩
  cases dx
  obtain ⟨p, us, rfl, hq, hd⟩ := seq_sq dy hs
  have e := hd.strs
  subst e
  refine ⟨p, ts.map V.str, rfl, hq, rfl, ?_, ?_⟩
  · rw [List.all_eq_true]
    intro y hy
    obtain ⟨s, _, rfl⟩ := List.mem_map.mp hy
    rfl
  · rw [inV_strs]
    exact h.now k (.bl _)
theorem ped_in (ha : PEd X w a ta) (hb : PEd X w b tb) (hm : behindInMarks .In b = false := by rfl) : PEd X w (.Compare a [.In] [b] pos) (dOp (inStrsD false) ta tb) := ped_cmp op_in_seq hm inStrsD_mo inStrs_br ha hb
theorem ped_notIn (ha : PEd X w a ta) (hb : PEd X w b tb) (hm : behindInMarks .NotIn b = false := by rfl) : PEd X w (.Compare a [.NotIn] [b] pos) (dOp (inStrsD true) ta tb) := ped_cmp op_notIn_seq hm inStrsD_mo inStrs_br ha hb
/-- one sign in a text -/
def signD (neg : Bool) : DD := fun x y Q => ∃ (c : Nat) (z : Str), x = .str ⟨#[c]⟩ ∧ y = .str z ∧ Q (.bl (if neg then !decide (c ∈ z.cps.toList) else decide (c ∈ z.cps.toList)))
theorem signD_mo {n : Bool} : Mo2 (signD n) := fun _ _ _ _ q ⟨t, ts, a, b, h⟩ => ⟨t, ts, a, b, q _ h⟩
theorem ped_sign (ha : PEd X w a ta) (hb : PEd X w b tb) (hm : behindInMarks .In b = false := by rfl) : PEd X w (.Compare a [.In] [b] pos) (dOp (signD false) ta tb) := by
  refine ped_cmp op_in_sign hm signD_mo ?_ ha hb
  rintro g W H v u x y Q k dx dy ⟨c, z, rfl, rfl, h⟩
  cases dx
  cases dy
  exact ⟨c, z, rfl, rfl, h.now k (.bl _)⟩
theorem ped_notSign (ha : PEd X w a ta) (hb : PEd X w b tb) (hm : behindInMarks .NotIn b = false := by rfl) : PEd X w (.Compare a [.NotIn] [b] pos) (dOp (signD true) ta tb) := by
  refine ped_cmp op_notIn_sign hm signD_mo ?_ ha hb
  rintro g W H v u x y Q k dx dy ⟨c, z, rfl, rfl, h⟩
  cases dx
  cases dy
  exact ⟨c, z, rfl, rfl, h.now k (.bl _)⟩

/-! ### names of the module -/
theorem ped_gint {x : Str} {i : Int} {t : Tok} {p : Pos} (hm : X.mg x = some (.int i t)) (hg : Gl X x := by rfl) (hd : (x == ("__debug__" : Str)) = false := by decide) : PEd X w (.Name x p) (dC (.int i)) :=
  ped_c (pe_glob (v := .int i) hg hm ⟨t, rfl⟩ hd) (fun _ _ _ q => q) fun _ _ _ => .int i
theorem ped_gstr {x y : Str} {t : Tok} {p : Pos} (hm : X.mg x = some (.str y t)) (hg : Gl X x := by rfl) (hd : (x == ("__debug__" : Str)) = false := by decide) : PEd X w (.Name x p) (dC (.str y)) :=
  ped_c (pe_glob (v := .str y) hg hm ⟨t, rfl⟩ hd) (fun _ _ _ q => q) fun _ _ _ => .str y
/-- a tuple of texts that stands in the module -/
theorem ped_gstrs {x : Str} {a : Addr} {ts : List Str} {p : Pos} (hm : X.mg x = some (.ref a)) (hT : ∀ H, TupS X.K H a (ts.map V.str)) (hg : Gl X x := by rfl) (hd : (x == ("__debug__" : Str)) = false := by decide) : PEd X w (.Name x p) (dC (.tup (ts.map .str))) := by
  refine ⟨weE (pe_glob (v := .ref a) hg hm rfl hd) ?_, fun r Q Q' q h => q _ h⟩
  rintro σ H Q ⟨W, own, r, S, z⟩
  exact z (.ref a) H Ext.refl S.ok (.tup (hT _) (DvAll.mk_strs _))

/-! ### sets of texts -/
def dSrtSet (te : TDE) : TDE := fun r Q => te r fun x => ∃ ts : List Str, x = .tup (ts.map .str) ∧ ts.length ≤ 60 ∧ ∀ ks : List Str, ks.Nodup → (∀ k, k ∈ ks ↔ k ∈ ts) → sortedS ks = true → Q (.lst (ks.map .str))
theorem ded_mem' {ts : List Str} {k : Str} : k ∈ ded ts ↔ k ∈ ts := by
  unfold ded
  rw [ded_mem]
  simp
theorem ded_len' {ts : List Str} : (ded ts).length ≤ ts.length := by
  have := ded_len (ks := ts) (l := [])
  rw [List.length_nil, Nat.zero_add] at this
  exact this
theorem ped_sortedSet {p p2 q : Pos} (hm : X.mg "sorted" = none) (hm2 : X.mg "set" = none) (he : PEd X w e te) (hc : X.calm = true := by rfl) (hg : Gl X "sorted" := by rfl) (hg2 : Gl X "set" := by rfl)
    (st : starEach [e] X.env = (false, eval e X.env) :: starEach [] X.env := by rfl) (st2 : starEach [.Call (.Name "set" p2) [e] [] q] X.env = (false, eval (.Call (.Name "set" p2) [e] [] q) X.env) :: starEach [] X.env := by rfl) :
    PEd X w (.Call (.Name "sorted" p) [.Call (.Name "set" p2) [e] [] q] [] pos) (dSrtSet te) := by
  refine ⟨weE (pe_callB (cr_sortedTx hc) hg hm (by decide +kernel) (pa_cons (pe_callTy (cr_setTx hc) hg2 hm2 (by decide +kernel) (pa_cons he.pe pa_nil st) (by decide) (by decide) (by exact st) (by rfl)) pa_nil st2) (by decide) (by decide) (by exact st2) (by rfl)) ?_, fun r Q Q' q h => he.mo _ _ _ (fun d ⟨ts, h1, h2, h3⟩ => ⟨ts, h1, h2, fun ks a b c => q _ (h3 ks a b c)⟩) h⟩
  rintro σ H Q ⟨W, own, r, S, z⟩
  refine go1 he S z fun d v H1 e1 k1 d1 ⟨ts, h1, h2, h3⟩ => ?_
  subst h1
  cases d1 with
  | @tup a us _ a1 a2 =>
    have eu := a2.strs
    subst eu
    refine ⟨a, ts, rfl, sq_hid a1.sq, by omega, fun p np => ?_⟩
    have hl := ded_len' (ts := ts)
    refine ⟨p, ded ts, rfl, upd_same, by omega, fun ks p2 pm nd srt np2 => ?_⟩
    obtain ⟨x1, x2, _, _⟩ := k1.new (o := TxO X.prog X.w p (ded ts)) np
    obtain ⟨y1, y2, y3, y4⟩ := x2.new (o := .lst (ks.map V.str)) np2
    exact h3 ks nd (fun k => pm.mem_iff.trans ded_mem') srt (.ref p2) _ (e1.trans (x1.trans y1)) y2 (.lst y4 (DvAll.mk_strs _))
def dLenSet (te : TDE) : TDE := fun r Q => te r fun x => ∃ ts : List Str, x = .tup (ts.map .str) ∧ ts.length ≤ 60 ∧ Q (.int ((ded ts).length : Nat))
theorem ped_lenSet {p p2 q : Pos} (hm : X.mg "len" = none) (hm2 : X.mg "set" = none) (he : PEd X w e te) (hc : X.calm = true := by rfl) (hg : Gl X "len" := by rfl) (hg2 : Gl X "set" := by rfl)
    (st : starEach [e] X.env = (false, eval e X.env) :: starEach [] X.env := by rfl) (st2 : starEach [.Call (.Name "set" p2) [e] [] q] X.env = (false, eval (.Call (.Name "set" p2) [e] [] q) X.env) :: starEach [] X.env := by rfl) :
    PEd X w (.Call (.Name "len" p) [.Call (.Name "set" p2) [e] [] q] [] pos) (dLenSet te) := by
  refine ⟨weE (pe_callB cr_lenTx hg hm (by decide +kernel) (pa_cons (pe_callTy (cr_setTx hc) hg2 hm2 (by decide +kernel) (pa_cons he.pe pa_nil st) (by decide) (by decide) (by exact st) (by rfl)) pa_nil st2) (by decide) (by decide) (by exact st2) (by rfl)) ?_, fun r Q Q' q h => he.mo _ _ _ (fun d ⟨ts, h1, h2, h3⟩ => ⟨ts, h1, h2, q _ h3⟩) h⟩
  rintro σ H Q ⟨W, own, r, S, z⟩
  refine go1 he S z fun d v H1 e1 k1 d1 ⟨ts, h1, h2, h3⟩ => ?_
  subst h1
  cases d1 with
  | @tup a us _ a1 a2 =>
    have eu := a2.strs
    subst eu
    refine ⟨a, ts, rfl, sq_hid a1.sq, by omega, fun p np => ?_⟩
    have hl := ded_len' (ts := ts)
    obtain ⟨x1, x2, _, _⟩ := k1.new (o := TxO X.prog X.w p (ded ts)) np
    exact ⟨p, ded ts, rfl, upd_same, by omega, h3 (.int _) _ (e1.trans x1) x2 (.int _)⟩
end
end Pd
/-! while; own lists emptied, joined. -/
namespace Pd
open PySem PySem.Spec PyProof.Rows L2
section
variable {X : Cx} {w : Wd} {a b c e : Expr} {es : List Expr} {ta tb te : TDE} {tt : TDT} {pos : Pos}
/-- ahead of each test: I n r, n falls -/
def dWhile (tt : TDT) (t : TDS) : TDS := fun E r => ∃ I : Nat → En → Prop, (∃ n, I n r) ∧ ∀ n r, I n r → tt r fun b => if b = true then ∀ nx : En → Prop, (∀ r', (∃ m, m < n ∧ I m r') → nx r') → t { E with nx := nx, ct := nx, bk := E.nx } r else E.nx r
theorem psd_while {body : List Stmt} {t : TDS} (hc : PTd X w c tt) (hb : PSsd X w body t) (hp : PassesOwn (model X.prog X.w) X.A X.env X.xe := by exact PassesOwn.never) : PSd X w (.While c body [] pos) (dWhile tt t) := by
  refine ⟨weS (ps_while hp hc.pt hb.ps) ?_, fun E E' r l ⟨I, h0, h⟩ => ⟨I, h0, fun n r hI => hc.mo _ _ _ (fun b => ite_mo (fun z nx hnx => hb.mo { E with nx := nx, ct := nx, bk := E.nx } { E' with nx := nx, ct := nx, bk := E'.nx } r ⟨fun _ q => q, l.rt, l.nx, fun _ q => q⟩ (z nx hnx)) (l.nx r)) (h n r hI)⟩⟩
  rintro E σ H ⟨W, own, r, S, I, ⟨n0, h0⟩, h⟩
  refine ⟨fun n σ1 H1 => ∃ W1 own1 r1, Grow w.g W H W1 H1 ∧ Stt X.K w W1 own1 r1 σ1 H1 ∧ I n r1, ⟨n0, W, own, r, .refl, S, h0⟩, ?_⟩
  rintro n σ1 H1 ⟨W1, own1, r1, g1, S1, i1⟩
  refine ⟨W1, own1, r1, S1, hc.mo _ _ _ (fun b z H2 e2 k2 => ?_) (h n r1 i1)⟩
  have g2 : Grow w.g W H W1 H2 := g1.trans (Grow.of k2 e2)
  have S2 := S1.ext e2 k2
  refine ite_mo (fun z => ?_) (fun z => z W1 own1 σ1 H2 g2 S2) z
  refine ⟨fun σ3 H3 => ∃ W3 own3 r3, Grow w.g W H W3 H3 ∧ Stt X.K w W3 own3 r3 σ3 H3 ∧ ∃ m, m < n ∧ I m r3, fun σ3 H3 ⟨W3, own3, r3, g3, S3, m, hm, i3⟩ => ⟨m, hm, W3, own3, r3, g3, S3, i3⟩, ?_⟩
  refine ⟨W1, own1, r1, S2, hb.mo { endD X.K w W H E with nx := fun r' => ∃ m, m < n ∧ I m r', ct := fun r' => ∃ m, m < n ∧ I m r', bk := (endD X.K w W H E).nx } _ _ ⟨fun r4 y W4 o4 σ4 H4 g4 S4 => ?_, fun d y => y, fun r4 y W4 o4 σ4 H4 g4 S4 => ?_, fun r4 y W4 o4 σ4 H4 g4 S4 => ?_⟩ (z _ fun r' y => y)⟩
  · exact ⟨W4, o4, r4, g2.trans g4, S4, y⟩
  · exact y W4 o4 σ4 H4 (g2.trans g4) S4
  · exact ⟨W4, o4, r4, g2.trans g4, S4, y⟩
/-- x.clear() -/
def dClr (i : Nat) : TDS := fun E r => ∃ ds, r[i]? = some (.own ds) ∧ E.nx (r.set i (.own []))
theorem psd_clear {i : Nat} {x : Str} {p apos cpos : Pos} (hN : X.N[i]? = some x := by rfl) (hv : Vis X.env.scope x := by first | exact Or.inl rfl | exact Or.inr (Or.inl rfl) | exact Or.inr (Or.inr rfl)) (hd : (x == ("__debug__" : Str)) = false := by decide) (hcd : (x == ("__classdict__" : Str)) = false := by decide)
    (hbase : attributeBase (.Name x p) "clear" X.env (eval (.Name x p) X.env) = eval (.Name x p) X.env := by rfl) (hline : (apos.endLine == cpos.line) = true := by rfl)
    (hs : swapsWith (.Call (.Attribute (.Name x p) "clear" apos) [] [] cpos) none pos.line X.env = pure false := by rfl) : PSd X w (.Expr (.Call (.Attribute (.Name x p) "clear" apos) [] [] cpos) pos) (dClr i) := by
  refine ⟨weS (ps_expr (pe_bm0 PySem.F.plainAttrs_list PySem.F.slot_list_clear PySem.F.type_list_clear mt_clear (pv i hN hv hd hcd) hbase hline) hs) ?_, fun E E' r l ⟨ds, a, h⟩ => ⟨ds, a, l.nx _ h⟩⟩
  rintro D σ H ⟨W, own, r, S, ds, hr, h⟩
  obtain ⟨v, hv, a, xs, o1, rfl, o3, o4⟩ := S.sl i _ hr (fun z => by cases z)
  obtain ⟨S', gr⟩ := S.setOwn (ys := []) (es := []) o1 hr .nil
  exact ⟨.ref a, hv, .inl ⟨rfl, _, SqL.of o3⟩, a, xs, rfl, rfl, o3, h W own σ _ gr S'⟩
theorem peU (h : ∀ w, PEd X w e te) : PE X e (fun σ H Q => ∃ w, liE X.K w te σ H Q) := ⟨fun pins s σ H Q I ⟨w, q⟩ => (h w).pe.run pins s σ H Q I q⟩
/-- y + e of lists, one's own among them: a new list of what cannot change -/
theorem pfd_cat (ha : ∀ w, PEd X w a ta) (hb : ∀ w, PEd X w b tb) : PFd X w (.BinOp a .Add b pos) (fun r Q => ta (openE r) fun x => tb (openE r) fun y => ∃ xs ys, x = .lst xs ∧ y = .lst ys ∧ xs.length + ys.length ≤ sizeLine ∧ noLs (xs ++ ys) = true ∧ Q (xs ++ ys)) := by
  refine ⟨weE (pe_op op_cat (peU ha) (peU hb)) ?_, fun r Q Q' q h => (ha w).mo _ _ _ (fun x => (hb w).mo _ _ _ fun y ⟨xs, ys, h1, h2, h3, h4, h5⟩ => ⟨xs, ys, h1, h2, h3, h4, q _ h5⟩) h⟩
  rintro σ H Q ⟨W, own, r, S, z⟩
  refine ⟨⟨H, w.g, shut W own r⟩, shut W own r, fun _ _ => False, openE r, S.opened, (ha w).mo _ _ _ (fun x z v H1 e1 k1 d1 => ?_) z⟩
  refine ⟨⟨H, w.g, shut W own r⟩, shut W own r, fun _ _ => False, openE r, S.opened.ext e1 k1, (hb w).mo _ _ _ (fun y z u H2 e2 k2 d2 => ?_) z⟩
  obtain ⟨xs, ys, rfl, rfl, hl, hn, q⟩ := z
  have d1' := Dv.mono (e2.hid k1.gW) _ _ d1
  cases d1' with
  | @lst l us _ a1 a2 =>
    cases d2 with
    | @lst m zs _ b1 b2 =>
      refine ⟨l, m, us, zs, rfl, rfl, (hid_some a1).2, (hid_some b1).2, by rw [a2.len, b2.len]; exact hl, fun p np => ?_⟩
      have e : Ext w.g H H2 := e1.trans e2
      exact q p (us ++ zs) H2 e (S.shutOk e k2) np (DvAll.sees (S.seesBack e) _ _ hn (a2.app b2))
end
/-! ### while by a measure -/
theorem while_run {tt : TDT} {t : TDS} {E : EnD} {r : En} (I : En → Prop) (μ : En → Nat) (start : I r) (step : ∀ r, I r → tt r fun b => if b = true then ∀ nx : En → Prop, (∀ r', I r' → μ r' < μ r → nx r') → t { E with nx := nx, ct := nx, bk := E.nx } r else E.nx r)
    (mo : ∀ r Q Q', (∀ b, Q b → Q' b) → tt r Q → tt r Q') : dWhile tt t E r := by
  refine ⟨fun n r => n = μ r ∧ I r, ⟨_, rfl, start⟩, ?_⟩
  rintro n r ⟨rfl, hI⟩
  exact mo _ _ _ (fun b => ite_mo (fun z nx h => z nx fun r' hr hm => h r' ⟨_, hm, rfl, hr⟩) fun z => z) (step r hI)
end Pd
namespace Pd
open PySem PySem.Spec PyProof.Rows L2 Tx
/-! ### sorted of a tuple of texts -/
section
variable {X : Cx} {w : Wd} {e : Expr} {te : TDE} {pos : Pos}
def rSortedTup (K : PySem.W.Frag) : List V → Hp → VK → Prop := fun vs H Q => ∃ (a : Addr) (l : List Str), vs = [.ref a] ∧ SqT K H a (l.map V.str) ∧ l.length < 64 ∧ ∀ ks p, ks.Perm l → sortedS ks = true → H p = none → Q (.ref p) (upd H p (.lst (ks.map V.str)))
theorem cr_sortedTup : CallR X (.builtin "sorted") (rSortedTup X.K) := by
  intro pins s σ H vs us Q I r h
  obtain ⟨a, l, rfl, hT, few, q⟩ := h
  obtain ⟨its, rv, pl, hz⟩ := I.tuple hT
  rw [Vals.ref1 r]
  have are := rv.strs
  have lv : its.length = l.length := by rw [← rv.length, List.length_map]
  obtain ⟨o, get_a, isc, n0, isd⟩ := pl
  apply Calls.call_function_entry kind_sorted plain_sorted entry_sorted (args_sorted1 _)
  unfold Builtin.«sorted»
  apply wpAny_bind (m := checkCount "sorted" 1 1 _); apply wpAny_pure; apply wpAny_bind
  refine wpAny_collect_seq a (.inr rfl) get_a isc isd (fun h1 keep => ?_) (by rw [List.size_toArray, lv, sizeLine_eq]; omega)
  have I1 : Inv X pins σ H { s with heap := h1 } := I.kept (t' := s.toks) keep
  rw [List.toList_toArray]
  apply wpAny_bind
  refine wpAny_newList ?_ (by rw [lv, sizeLine_eq]; omega)
  have at_l : (h1.push (seqObj "list" its.toArray 0)).get? h1.objs.size = some (seqObj "list" its.toArray 0) := Heap.get?_push_size _ rfl
  apply wpAny_bind; apply wpAny_holding
  refine wpAny_call_entry slot_list_sort ⟨_, at_l, rfl⟩ entry_list_sort (list_sort_treeK strKind_oneLt at_l are.keysOf (fun v1 v2 rest e => keyKind_strs (by rw [← e]; exact are)) (by rw [lv]; exact few) fun st hp hs => ?_) (args_list_sort _)
  obtain ⟨ys, y1, y2, y3⟩ := sorted_out_str are hp hs
  obtain ⟨c, hc⟩ := sortedHeap_at (vs := its) (out := (arrOf st).map (·.2)) at_l
  have hn : H h1.objs.size = none := I1.hok.fresh (Nat.le_refl _)
  have keep2 : ∀ b o, h1.get? b = some o → (sortedHeap (h1.push (seqObj "list" its.toArray 0)) h1.objs.size its ((arrOf st).map (·.2))).get? b = some o := fun b o e1 => by
    have lt := Heap.lt_size e1
    rw [sortedHeap_old (Nat.ne_of_lt lt) (by rw [size_push']; exact Nat.lt_succ_of_lt lt)]
    exact Heap.get?_push_of_some _ e1
  have lk : (ys.map V.str).length ≤ sizeLine := by rw [List.length_map, y2.length_eq, sizeLine_eq]; omega
  have okl : ObjOk X.prog X.w (upd H h1.objs.size (.lst (ys.map V.str))) (sortedHeap (h1.push (seqObj "list" its.toArray 0)) h1.objs.size its ((arrOf st).map (·.2))) h1.objs.size (.lst (ys.map V.str)) := ⟨lk, ((arrOf st).map (·.2)).toList, c, vals_of_strs y1, hc⟩
  have J := I1.call (g' := s.gens) (t' := s.toks) (d' := s.drawn) (ch := []) (Un.laid keep2 (Nat.le_refl _) hn) (I1.hok.laid keep2 (Nat.le_refl _) okl) I1.bare (fun _ z => nomatch z)
  exact ⟨_, rfl, wpAny_pure ⟨_, rfl, .ref h1.objs.size, _, J, rfl, q ys _ y2 y3 hn⟩⟩
def dSrtTup (te : TDE) : TDE := fun r Q => te r fun x => ∃ ts : List Str, x = .tup (ts.map .str) ∧ ts.length ≤ 60 ∧ ∀ ks : List Str, ks.Perm ts → sortedS ks = true → Q (.lst (ks.map .str))
theorem ped_sortedTup {p : Pos} (hm : X.mg "sorted" = none) (he : PEd X w e te) (hg : Gl X "sorted" := by rfl) (st : starEach [e] X.env = (false, eval e X.env) :: starEach [] X.env := by rfl) : PEd X w (.Call (.Name "sorted" p) [e] [] pos) (dSrtTup te) := by
  refine ⟨weE (pe_callB cr_sortedTup hg hm (by decide +kernel) (pa_cons he.pe pa_nil st) (by decide) (by decide) (by exact st) (by rfl)) ?_, fun r Q Q' q h => he.mo _ _ _ (fun d ⟨ts, h1, h2, h3⟩ => ⟨ts, h1, h2, fun ks a b => q _ (h3 ks a b)⟩) h⟩
  rintro σ H Q ⟨W, own, r, S, z⟩
  refine go1 he S z fun d v H1 e1 k1 d1 ⟨ts, h1, h2, h3⟩ => ?_
  subst h1
  cases d1 with
  | @tup a us _ a1 a2 =>
    have eu := a2.strs
    subst eu
    refine ⟨a, ts, rfl, sq_hid a1.sq, by omega, fun ks p2 pm srt np2 => ?_⟩
    obtain ⟨y1, y2, y3, y4⟩ := k1.new (o := .lst (ks.map V.str)) np2
    exact h3 ks pm srt (.ref p2) _ (e1.trans y1) y2 (.lst y4 (DvAll.mk_strs _))
end
end Pd
/-! A tuple turned about: t[::-1]. -/
namespace Pd
open PySem PySem.Spec PyProof.Rows L2
section
variable {P : Program} {wd : World} {A : Around} {E : Value → Shared → Prop} {s : Shared}
theorem fm_map {g : Nat → Value} {f : Nat → Option Value} : ∀ l : List Nat, (∀ m ∈ l, f m = some (g m)) → l.filterMap f = l.map g
  | [], _ => rfl
  | m :: l, h => by rw [List.filterMap_cons, h m List.mem_cons_self, List.map_cons, fm_map l fun x hx => h x (List.mem_cons_of_mem _ hx)]
theorem back_all (xs : Array Value) : ((List.range xs.size).filterMap fun (m : Nat) => xs[(((xs.size : Nat) : Int) - 1 + (m : Int) * (-1)).toNat]?) = xs.toList.reverse := by
  apply List.ext_getElem?
  intro i
  have e : ∀ m ∈ List.range xs.size, xs[(((xs.size : Nat) : Int) - 1 + (m : Int) * (-1)).toNat]? = some (xs.toList.reverse.getD m .none) := fun m hm => by
    have lt : m < xs.size := List.mem_range.mp hm
    have n1 : (((xs.size : Nat) : Int) - 1 + (m : Int) * (-1)).toNat = xs.size - 1 - m := by omega
    have l2 : m < xs.toList.reverse.length := by rw [List.length_reverse, Array.length_toList]; exact lt
    rw [n1, List.getD_eq_getElem?_getD, List.getElem?_eq_getElem l2, List.getElem_reverse]
    have l3 : xs.size - 1 - m < xs.size := by omega
    rw [Array.getElem?_eq_getElem l3]
    simp
  have f : ((List.range xs.size).filterMap fun (m : Nat) => xs[(((xs.size : Nat) : Int) - 1 + (m : Int) * (-1)).toNat]?) = (List.range xs.size).map fun m => xs.toList.reverse.getD m .none := fm_map _ e
  rw [f, List.getElem?_map]
  by_cases h : i < xs.size
  · have l2 : i < xs.toList.reverse.length := by rw [List.length_reverse, Array.length_toList]; exact h
    rw [List.getElem?_range h, List.getElem?_eq_getElem l2]
    show some (xs.toList.reverse.getD i .none) = some _
    rw [List.getD_eq_getElem?_getD, List.getElem?_eq_getElem l2]
    rfl
  · rw [List.getElem?_eq_none (by rw [List.length_range]; omega), List.getElem?_eq_none (by rw [List.length_reverse, Array.length_toList]; omega)]
    rfl
theorem applied_back {sl : Addr} {vl vu vs : Value} {n : Nat} {Q : Int × Int × Nat → Shared → Prop} (hs : s.heap.IsSliceOf sl vl vu vs) (pl : IsPart vl none) (pu : IsPart vu none) (ps : IsPart vs (some (-1))) (h : Q ((n : Int) - 1, -1, n) s) :
    wpAny (model P wd) A (Builtin.Slice.sliceApplied (.ref sl) (pure (n : Int))) Q E s := by
  obtain ⟨os, at_s, hc, hd⟩ := id hs
  unfold Builtin.Slice.sliceApplied; unfold Builtin.Slice.sliceFields
  apply wpAny_bind
  refine wpAny_bind (wpAny_field at_s hd (x := vl) rfl (wpAny_bind (wpAny_field at_s hd (x := vu) rfl (wpAny_bind (wpAny_field at_s hd (x := vs) rfl (wpAny_pure ?_))))))
  apply wpAny_bind
  refine HT.slicePart_ ps ?_
  show wpAny _ _ (if ((-1 : Int) == 0) = true then _ else _) _ _ s
  rw [if_neg (by decide)]
  refine wpAny_bind (HT.slicePart_ pl (wpAny_bind (HT.slicePart_ pu (wpAny_bind (wpAny_pure ?_)))))
  show wpAny _ _ (match Builtin.Slice.sliceAdjust none none (-1) (n : Int) with | (lo, hi) => pure (lo, (-1 : Int), Builtin.Slice.slicePlaces lo hi (-1))) _ _ s
  have a1 : Builtin.Slice.sliceAdjust none none (-1) (n : Int) = ((n : Int) - 1, -1) := by rfl
  have a2 : Builtin.Slice.slicePlaces ((n : Int) - 1) (-1) (-1) = n := by
    unfold Builtin.Slice.slicePlaces
    rw [if_neg (by decide)]
    by_cases z : (n : Int) - 1 > -1
    · rw [if_pos z]
      have : ((n : Int) - 1 - -1 - 1) / - -1 + 1 = n := by
        rw [show (- -1 : Int) = 1 by decide, Int.ediv_one]
        omega
      rw [this, Int.toNat_natCast]
    · rw [if_neg z]
      omega
  rw [a1]
  show wpAny _ _ (pure ((n : Int) - 1, (-1 : Int), Builtin.Slice.slicePlaces ((n : Int) - 1) (-1) (-1))) _ _ s
  rw [a2]
  exact wpAny_pure h
theorem item_back {t sl : Addr} {items : Array Value} {vl vu vs : Value} {Q : Value → Shared → Prop} (ht : IsTup s.heap t items) (hs : s.heap.IsSliceOf sl vl vu vs) (pl : IsPart vl none) (pu : IsPart vu none) (ps : IsPart vs (some (-1)))
    (h : Q (.ref s.heap.objs.size) { s with heap := s.heap.push { cls := .type "tuple", data := .seq items.toList.reverse.toArray } }) (size : items.size ≤ sizeLine) : wpAny (model P wd) A (getItem (.ref t) (.ref sl)) Q E s := by
  have fits : sizeOk (.seq items.toList.reverse.toArray) := by
    show items.toList.reverse.toArray.size ≤ sizeLine
    rw [List.size_toArray, List.length_reverse, Array.length_toList]
    exact size
  obtain ⟨os, at_s, hc, hd⟩ := id hs
  unfold getItem
  try with_reducible apply wpAny_holding
  first | refine wpAny_bind (wpAny_pure ?_) | skip
  apply wpAny_bind
  refine wpAny_sequenceKey ht.typeIs (by decide) ?_
  apply wpAny_bind
  refine wpAny_callSpecial?_slot (name := Str.ofString "__getitem__") ht.typeIs PyProof.Rows.slot_tuple_getitem (wpAny_call_entry PyProof.Rows.slot_tuple_getitem ht.typeIs entry_tuple_getitem ?_ (args_tuple_getitem _ _))
  show wpAny _ _ (Builtin.Tuple.tupleItemsOf (.ref t) >>= _) _ _ s
  apply wpAny_bind; refine tupleItemsOf_ ht ?_
  apply wpAny_bind; refine wpAny_typeOf (T := "slice") ⟨os, at_s, hc⟩ ?_
  rw [if_pos (by decide)]
  apply wpAny_bind; refine applied_back hs pl pu ps ?_
  have no : ¬ (((((items.size : Nat) : Int) - 1 == 0) && ((-1 : Int) == 1) && (items.size == items.size)) = true) := by
    rw [show ((-1 : Int) == 1) = false by decide, Bool.and_false, Bool.false_and]
    exact Bool.false_ne_true
  show wpAny _ _ (if ((((items.size : Nat) : Int) - 1 == 0) && ((-1 : Int) == 1) && (items.size == items.size)) = true then _ else _) _ _ s
  rw [if_neg no, back_all]
  first
    | exact wpAny_bind (m := Builtin.Tuple.tupleExact _) (wpAny_newObj_type (wpAny_pure ⟨_, rfl, wpAny_pure h⟩) fits)
    | exact wpAny_bind (m := Builtin.Tuple.tupleExact _) (wpAny_newObj_type (wpAny_bind (wpAny_pure (wpAny_pure ⟨_, rfl, wpAny_pure h⟩))) fits)
    | exact wpAny_bind (wpAny_bind (m := Builtin.Tuple.tupleExact _) (wpAny_newObj_type (wpAny_pure (wpAny_pure ⟨_, rfl, wpAny_pure h⟩)) fits))
    | exact wpAny_bind (wpAny_bind (m := Builtin.Tuple.tupleExact _) (wpAny_newObj_type (wpAny_pure ⟨_, rfl, wpAny_pure h⟩) fits))
end
section
variable {X : Cx} {w : Wd} {e : Expr}
def tBack (K : PySem.W.Frag) (te : TE) : TE := fun σ H Q => te σ H fun x H1 => ∃ a xs, x = .ref a ∧ SqT K H1 a xs ∧ NewT xs.reverse H1 Q
theorem pe_back {te : TE} {k : Nat} {p1 p2 p3 pos : Pos} (he : PE X e te) : PE X (.Subscript e (.Slice none none (some (.UnaryOp .USub (.Constant (.int 1) k p1) p2)) p3) pos) (tBack X.K te) := by
  constructor
  intro pins s σ H Q I h
  apply Subscript_
  refine thn (he.run pins s σ H _ I h) fun v s1 ⟨x, H1, I1, r1, a, xs, ex, hx, q⟩ => ?_
  subst ex
  cases r1
  have step : PO X (some (.UnaryOp .USub (.Constant (.int 1) k p1) p2)) (tPart (tUn (rU fun i => .int (-i)) (tC (.int 1)))) := po_some (pe_un un_neg pe_int)
  apply wpAny_Slice
  refine thn (po_none.run pins s1 σ H1 (fun o G => o = none ∧ G = H1) I1 ⟨rfl, rfl⟩) ?_
  rintro vl s2 ⟨l, H2, I2, pl, rfl, rfl⟩
  refine thn (po_none.run pins s2 σ H2 (fun o G => o = none ∧ G = H2) I2 ⟨rfl, rfl⟩) ?_
  rintro vu s3 ⟨u, H3, I3, pu, rfl, rfl⟩
  refine thn (step.run pins s3 σ H3 (fun o G => o = some (-1) ∧ G = H3) I3 ⟨1, rfl, -1, rfl, rfl, rfl⟩) ?_
  rintro vs s4 ⟨o, H4, I4, ps, rfl, rfl⟩
  have I5 : Inv X pins σ H4 { s4 with heap := s4.heap.push { cls := .type "slice", data := .fields #[vl, vu, vs] } } := I4.kept (t' := s4.toks) fun b ob q => Heap.get?_push_of_some _ q
  obtain ⟨its, r, ht, hz⟩ := I5.tuple hx
  have hlen := r.length
  show wpAny (model X.prog X.w) X.A (subscriptTail e (.Slice none none (some (.UnaryOp .USub (.Constant (.int 1) k p1) p2)) p3) (.ref a) (.ref s4.heap.objs.size)) (EP X pins σ Q) X.xe { s4 with heap := s4.heap.push { cls := .type "slice", data := .fields #[vl, vu, vs] } }
  refine tail_any (ops := [.ref a, .ref s4.heap.objs.size]) ht.typeIs PyProof.Rows.slot_tuple_getitem.lookup ?_ (by with_unfolding_all rfl)
  refine item_back ht (Heap.IsSliceOf.new _ vl vu vs) pl pu ps ?_ (by rw [List.size_toArray, ← hlen]; exact hz)
  exact new_tup I5 r.reverse (by rw [List.length_reverse]; exact hz) q
def dBack (te : TDE) : TDE := fun r Q => te r fun x => ∃ xs, x = .tup xs ∧ Q (.tup xs.reverse)
theorem DvAll.rev {K : PySem.W.Frag} {g : Option Addr} {H : Hp} : ∀ {xs : List V} {ds : List Da}, DvAll K g H xs ds → DvAll K g H xs.reverse ds.reverse
  | _, _, .nil => .nil
  | _, _, .cons h t => by
    rw [List.reverse_cons, List.reverse_cons]
    exact DvAll.app (DvAll.rev t) (.cons h .nil)
theorem ped_back {te : TDE} {k : Nat} {p1 p2 p3 pos : Pos} (he : PEd X w e te) : PEd X w (.Subscript e (.Slice none none (some (.UnaryOp .USub (.Constant (.int 1) k p1) p2)) p3) pos) (dBack te) := by
  refine ⟨weE (pe_back he.pe) ?_, fun r Q Q' q h => he.mo _ _ _ (fun d ⟨xs, a, b⟩ => ⟨xs, a, q _ b⟩) h⟩
  rintro σ H Q ⟨W, own, r, S, z⟩
  refine go1 he S z fun d v H1 e1 k1 d1 ⟨xs, h1, h2⟩ => ?_
  subst h1
  cases d1 with
  | @tup a us _ a1 a2 => exact ⟨a, us, rfl, sq_hid a1.sq, (h2.then e1).newT k1 a2.rev⟩
end
end Pd
/-! repr of data that hold dicts (and no lists); displays of dicts. -/
namespace Pd
open PySem PySem.Spec PyProof.Rows L2
def keyP : Key → PyData
  | .inl i => .int i
  | .inr x => .str x
mutual
def toR : Da → PyData
  | .non => .none
  | .bl b => .bool b
  | .int i => .int i
  | .str x => .str x
  | .lst _ => .none
  | .tup xs => .tuple (toRs xs)
  | .tpw xs => .tuple (toRs xs)
  | .dct kvs => .dict (toRk kvs)
  | .bag => .none
  | .raw _ => .none
  | .fix _ => .none
def toRs : List Da → List PyData
  | [] => []
  | x :: xs => toR x :: toRs xs
def toRk : List (Key × Da) → List (PyData × PyData)
  | [] => []
  | (k, x) :: xs => (keyP k, toR x) :: toRk xs
end
mutual
def canR : Da → Bool
  | .non => true
  | .bl _ => true
  | .int _ => true
  | .str _ => true
  | .lst _ => false
  | .tup xs => canRs xs
  | .tpw xs => canRs xs
  | .dct kvs => canRk kvs
  | .bag => false
  | .raw _ => false
  | .fix _ => false
def canRs : List Da → Bool
  | [] => true
  | x :: xs => canR x && canRs xs
def canRk : List (Key × Da) → Bool
  | [] => true
  | (_, x) :: xs => canR x && canRk xs
end
theorem keys_reads {P : Program} {wd : World} {h : Heap} : ∀ {es : List DictEntry} {us : List (Key × Value)} {kds : List (Key × Da)}, Pairs (mixKind P wd) es us → us.map (·.1) = kds.map (·.1) → ReadsAll h (es.map (·.key)) ((toRk kds).map (·.1)) []
  | _, _, [], .nil, _ => by rw [toRk]; exact .nil
  | _, _, _ :: _, .nil, e => by cases e
  | _, _, [], .cons _ _ _, e => by cases e
  | _, _, (k, x) :: kds, .cons (e := en) (kv := kv) h1 h2 h3, e => by
    rw [List.map_cons, List.map_cons] at e
    injection e with e1 e2
    have t := keys_reads (h := h) h3 e2
    rw [toRk, List.map_cons, List.map_cons]
    have hk : keyIs kv.1 en.key = true := h1
    rw [e1] at hk
    rcases keyIs_shape hk with ⟨i, t0, q1, q2⟩ | ⟨y, t0, q1, q2⟩
    · have q1' : k = .inl i := q1
      rw [q2, q1']
      exact ReadsAll.cons (as := []) (bs := []) (Reads.int i t0) t
    · have q1' : k = .inr y := q1
      rw [q2, q1']
      exact ReadsAll.cons (as := []) (bs := []) (Reads.str y t0) t
theorem pairs_vals {P : Program} {wd : World} : ∀ {es : List DictEntry} {us : List (Key × Value)}, Pairs (mixKind P wd) es us → es.map (·.val) = us.map (·.2)
  | _, _, .nil => rfl
  | _, _, .cons _ h2 h3 => by rw [List.map_cons, List.map_cons, h2, pairs_vals h3]
section
variable {X : Cx} {pins : List (Addr × Obj)} {σ : L2.St} {H : Hp} {s : Shared} {g : Option Addr} {Hh : Hp}
mutual
theorem Dv.readsR (I : Inv X pins σ H s) (sm : Sm Hh H) : ∀ (d : Da) (v : V) (u : Value), Dv X.K g Hh v d → canR d = true → RelV v u → ∃ as, Reads s.heap u (toR d) as ∧ sysModules ∉ as
  | .non, _, _, h, _, r => by cases h; cases r; exact ⟨[], by rw [toR]; exact .none, List.not_mem_nil⟩
  | .bl b, _, _, h, _, r => by cases h; cases r; exact ⟨[], by rw [toR]; exact .bool b, List.not_mem_nil⟩
  | .int i, _, _, h, _, r => by cases h; obtain ⟨t, rfl⟩ := r; exact ⟨[], by rw [toR]; exact .int i t, List.not_mem_nil⟩
  | .str x, _, _, h, _, r => by cases h; obtain ⟨t, rfl⟩ := r; exact ⟨[], by rw [toR]; exact .str x t, List.not_mem_nil⟩
  | .lst _, _, _, _, c, _ => by rw [canR] at c; cases c
  | .tup ds, _, _, h, c, r => by
    rw [canR] at c
    cases h with
    | tup h1 h2 =>
      cases r
      obtain ⟨its, rv, ⟨o, ho, hc, n, hd⟩, _⟩ := I.tuple (sqt_mono sm h1.sq)
      obtain ⟨as, q1, q2⟩ := DvAll.readsR I sm ds _ its h2 c rv
      exact ⟨as, by rw [toR]; exact .tuple ho hc hd q1, q2⟩
  | .tpw ds, _, _, h, c, r => by
    rw [canR] at c
    cases h with
    | tpw h1 h2 =>
      cases r
      obtain ⟨its, rv, ⟨o, ho, hc, n, hd⟩, _⟩ := I.tuple (sqt_mono sm h1)
      obtain ⟨as, q1, q2⟩ := DvAll.readsR I sm ds _ its h2 c rv
      exact ⟨as, by rw [toR]; exact .tuple ho hc hd q1, q2⟩
  | .dct kds, _, _, h, c, r => by
    rw [canR] at c
    cases h with
    | @dct a kvs _ h1 h2 =>
      cases r
      obtain ⟨_, low, us, kv, o, es, ep, ho, hex, hd, _, hp, _⟩ := (show ObjOk X.prog X.w H s.heap a (.dK kvs) from I.hok a _ (sm _ _ h1))
      obtain ⟨bs, q1, q2, q3⟩ := KvAll.readsR I sm kds kvs us h2 c kv
      refine ⟨a :: ([] ++ bs), ?_, fun z => ?_⟩
      · rw [toR]
        have k1 := keys_reads (h := s.heap) hp q3
        have k2 := pairs_vals hp
        exact Reads.dict (as := []) (bs := bs) ho hex.1 hd k1 (by rw [k2]; exact q1)
      · rcases List.mem_cons.mp z with z | z
        · rw [← z] at low
          simp at low
        · exact q2 z
  | .bag, _, _, _, c, _ => by rw [canR] at c; cases c
  | .raw _, _, _, _, c, _ => by rw [canR] at c; cases c
  | .fix _, _, _, _, c, _ => by rw [canR] at c; cases c
theorem DvAll.readsR (I : Inv X pins σ H s) (sm : Sm Hh H) : ∀ (ds : List Da) (vs : List V) (us : List Value), DvAll X.K g Hh vs ds → canRs ds = true → Vals vs us → ∃ as, ReadsAll s.heap us (toRs ds) as ∧ sysModules ∉ as
  | [], _, _, h, _, r => by cases h; cases r; exact ⟨[], by rw [toRs]; exact .nil, List.not_mem_nil⟩
  | d :: ds, _, _, h, c, r => by
    rw [canRs, Bool.and_eq_true] at c
    cases h with
    | cons h1 h2 =>
      cases r with
      | cons r1 r2 =>
        obtain ⟨as, q1, n1⟩ := Dv.readsR I sm d _ _ h1 c.1 r1
        obtain ⟨bs, q2, n2⟩ := DvAll.readsR I sm ds _ _ h2 c.2 r2
        exact ⟨as ++ bs, by rw [toRs]; exact .cons q1 q2, fun z => (List.mem_append.mp z).elim n1 n2⟩
theorem KvAll.readsR (I : Inv X pins σ H s) (sm : Sm Hh H) : ∀ (kds : List (Key × Da)) (kvs : List (Key × V)) (us : List (Key × Value)), KvAll X.K g Hh kvs kds → canRk kds = true → KV kvs us → ∃ as, ReadsAll s.heap (us.map (·.2)) ((toRk kds).map (·.2)) as ∧ sysModules ∉ as ∧ us.map (·.1) = kds.map (·.1)
  | [], _, _, h, _, r => by cases h; cases r; exact ⟨[], by rw [toRk]; exact .nil, List.not_mem_nil, rfl⟩
  | (k, d) :: kds, _, _, h, c, r => by
    rw [canRk, Bool.and_eq_true] at c
    cases h with
    | cons h1 h2 =>
      cases r with
      | cons r1 r2 =>
        obtain ⟨as, q1, n1⟩ := Dv.readsR I sm d _ _ h1 c.1 r1.2
        obtain ⟨bs, q2, n2, e2⟩ := KvAll.readsR I sm kds _ _ h2 c.2 r2
        exact ⟨as ++ bs, by rw [toRk]; exact .cons q1 q2, fun z => (List.mem_append.mp z).elim n1 n2, by rw [List.map_cons, List.map_cons, e2]; exact congrArg (· :: _) r1.1.symm⟩
end
end
/-! ### repr -/
def shwOkR (x : Da) : Prop := canR x = true ∧ (toR x).showable = true ∧ (toR x).depth ≤ 60 ∧ (toR x).shown.length ≤ sizeLine
section
variable {X : Cx} {w : Wd} {e : Expr} {es : List Expr} {t : TDA} {p pos : Pos}
def rReprR (K : PySem.W.Frag) : List V → Hp → VK → Prop := fun vs H Q => ∃ (g : Option Addr) (Hh : Hp) (v : V) (d : Da), vs = [v] ∧ Sm Hh H ∧ Dv K g Hh v d ∧ shwOkR d ∧ Q (.str (toR d).shown) H
theorem cr_reprR {k : Nat} (hr : Room k X.A) (hG : X.A.guards = some []) : CallR X (.builtin "repr") (rReprR X.K) := by
  intro pins s σ H vs us Q I r h
  obtain ⟨g, Hh, v, d, rfl, sm, dv, ⟨c, sh, dep, len⟩, q⟩ := h
  obtain ⟨u, rfl, ru⟩ := vals1 r
  obtain ⟨as, rd, no⟩ := Dv.readsR I sm d v u dv c ru
  have un := hr.un
  have refs : ∀ a : Addr, u = .ref a → wpAny (model X.prog X.w) X.A (call (.builtin "repr") [u]) (EP X pins σ Q) X.xe s := by
    rintro a rfl
    exact repr_of_reads' (h₀ := s.heap) rd sh (fun _ => no) hG (by omega) (fun _ _ e => e) (fun h2 u2 tk keep => ⟨.str (toR d).shown, H, I.kept keep, ⟨u2, rfl⟩, q⟩) len
  have fin : ∀ y : Str, y = (toR d).shown → EP X pins σ Q (.str y s.toks) { s with toks := s.toks + 1 } := fun y z => ⟨.str (toR d).shown, H, I.tok _, ⟨s.toks, by rw [z]⟩, q⟩
  generalize toR d = D at rd sh dep len fin refs
  cases rd with
  | none => exact PySem.P.repr_of_none (fin _ (by rw [PyData.shown]))
  | bool b => exact PySem.P.repr_of_bool (fin _ (by rw [PyData.shown]))
  | int i tk => exact PySem.P.repr_of_int (by rw [PyData.showable] at sh; exact of_decide_eq_true sh) (fin _ (by rw [PyData.shown]))
  | str y tk => exact PySem.P.repr_of_str (fin _ (by rw [PyData.shown])) (by rw [PyData.shown] at len; exact len)
  | list _ _ _ _ => exact refs _ rfl
  | tuple _ _ _ _ => exact refs _ rfl
  | dict _ _ _ _ _ => exact refs _ rfl
/-- the text of a datum: by its lists, or by its dicts -/
def reprA : DB := fun ds Q => ∃ x, ds = [x] ∧ ((shwOk x ∧ Q (.str (toP x).shown)) ∨ (shwOkR x ∧ Q (.str (toR x).shown)))
theorem cr_reprA {k : Nat} (hr : Room k X.A) (hG : X.A.guards = some []) : CallR X (.builtin "repr") (fun vs H Q => rReprD X.K vs H Q ∨ rReprR X.K vs H Q) := by
  intro pins s σ H vs us Q I r h
  rcases h with h | h
  · exact cr_reprD hr hG pins s σ H vs us Q I r h
  · exact cr_reprR hr hG pins s σ H vs us Q I r h
theorem ped_reprA {k : Nat} (hr : Room k X.A) (hG : X.A.guards = some []) (hm : X.mg "repr" = none) (args : PAd X w (e :: es) t) (hg : Gl X "repr" := by rfl) (he : starEach (e :: es) X.env = (false, eval e X.env) :: starEach es X.env := by rfl) (hpl : (backTo pos (starEach es X.env)).any (·.1) = false := by rfl) :
    PEd X w (.Call (.Name "repr" p) (e :: es) [] pos) (dCall reprA t) := by
  refine ped_callB (cr_reprA hr hG) (fun ds Q Q' q ⟨x, a, h⟩ => ⟨x, a, h.imp (fun z => ⟨z.1, q _ z.2⟩) fun z => ⟨z.1, q _ z.2⟩⟩) ?_ hm (by decide +kernel) args hg (by decide) (by decide) he hpl
  rintro g W H vs ds Q k dv ⟨x, rfl, h⟩
  obtain ⟨v, rfl, dx⟩ := dv.one
  rcases h with ⟨⟨c1, c2, c3, c4⟩, h⟩ | ⟨ok, h⟩
  · exact .inl ⟨v, toP x, rfl, Dv.dp x v (Dv.mono hid_sub _ _ dx) c1, c2, noDict_toP x c1, c3, c4, h.now k (.str _)⟩
  · exact .inr ⟨g, hid W H, v, x, rfl, hid_sub, dx, ok, h.now k (.str _)⟩
/-! ### displays of dicts -/
theorem ped_dnew : PEd X w (.Dict [] [] pos) (dC (.dct [])) := by
  refine ⟨weE pe_dnewK ?_, fun r Q Q' q h => q _ h⟩
  rintro σ H Q ⟨W, own, r, S, z⟩ p np
  obtain ⟨x1, x2, x3, x4⟩ := S.ok.new (o := .dK []) np
  exact z (.ref p) _ x1 x2 (.dct x4 .nil)
/-- {text: whole number} -/
theorem ped_dict1 {x : Str} {i : Int} {j1 j2 : Nat} {p1 p2 : Pos} : PEd X w (.Dict [some (.Constant (.str x) j1 p1)] [.Constant (.int i) j2 p2] pos) (dC (.dct [(.inr x, .int i)])) := by
  refine ⟨weE (pe_disp (pps_cons pe_str pe_int pps_nil) rfl rfl (by simp) (show 1 ≤ 15 by decide)) ?_, fun r Q Q' q h => q _ h⟩
  rintro σ H Q ⟨W, own, r, S, z⟩ p np
  obtain ⟨x1, x2, x3, x4⟩ := S.ok.new (o := .dK [(.inr x, .int i)]) np
  refine ⟨upd_same, [(.inr x, V.int i)], rfl, (show 1 ≤ 15 by decide), ?_⟩
  rw [upd_upd]
  exact z (.ref p) _ x1 x2 (.dct x4 (.cons (.int i) .nil))
end
end Pd
/-! The same as tests. -/
namespace Pd
open PySem PySem.Spec PyProof.Rows L2
section
variable {X : Cx} {w : Wd} {a b c : Expr} {ta tb tc : TDE} {pos : Pos}
theorem ptd_chain {op op' : CmpOp} {R R' : R2} {D D' : DD} (ho : OpR X (compareOp op) R) (ho' : OpR X (compareOp op') R') (m : Mo2 D) (m' : Mo2 D') (br : Br2 X.K R D) (br' : Br2 X.K R' D') (ha : PEd X w a ta) (hb : PEd X w b tb) (hc : PEd X w c tc)
    (hm : lastMarks [op, op'] [b, c] = false := by with_unfolding_all rfl) : PTd X w (.Compare a [op, op'] [b, c] pos) (dB (dChain D D' ta tb tc)) := by
  have h := ped_chain (pos := pos) ho ho' m m' br br' ha hb hc hm
  refine ⟨weT (pt_chain ho ho' ha.pe hb.pe hc.pe hm) ?_, dB_mo h.mo⟩
  rintro σ H Q ⟨W, own, r, S, z⟩
  refine go1 ha S z fun x v H1 e1 k1 d1 z => ?_
  refine go1 hb (S.ext e1 k1) z fun y u H2 e2 k2 d2 z2 => ?_
  refine br w.g W H2 v u x y _ k2 (Dv.mono (e2.hid k1.gW) _ _ d1) d2 (m _ _ _ _ (fun z3 h v3 H3 e3 k3 d3 => ?_) z2)
  obtain ⟨k, rfl, h⟩ := h
  cases d3
  refine ⟨k, rfl, ite_mo (fun h => ?_) (fun h => ?_) h⟩
  · refine go1 hc (((S.ext e1 k1).ext e2 k2).ext e3 k3) h fun x4 v4 H4 e4 k4 d4 z4 => ?_
    refine br' w.g W H4 u v4 y x4 _ k4 (Dv.mono ((e3.trans e4).hid k2.gW) _ _ d2) d4 (m' _ _ _ _ (fun d q v5 H5 e5 k5 d5 => ?_) z4)
    obtain ⟨k', rfl, q⟩ := q
    cases d5
    exact ⟨k', rfl, q H5 (e1.trans (e2.trans (e3.trans (e4.trans e5)))) k5⟩
  · obtain ⟨k', e, q⟩ := h
    cases e
    exact ⟨false, rfl, q H3 (e1.trans (e2.trans e3)) k3⟩
theorem ptd_ltle (ha : PEd X w a ta) (hb : PEd X w b tb) (hc : PEd X w c tc) (hm : lastMarks [.Lt, .LtE] [b, c] = false := by with_unfolding_all rfl) : PTd X w (.Compare a [.Lt, .LtE] [b, c] pos) (dB (dChain ltD leD ta tb tc)) := ptd_chain (op_lt.or op_lt_str) (op_le.or op_le_str) ordD_mo ordD_mo ordD_br ordD_br ha hb hc hm
theorem ptd_lele (ha : PEd X w a ta) (hb : PEd X w b tb) (hc : PEd X w c tc) (hm : lastMarks [.LtE, .LtE] [b, c] = false := by with_unfolding_all rfl) : PTd X w (.Compare a [.LtE, .LtE] [b, c] pos) (dB (dChain leD leD ta tb tc)) := ptd_chain (op_le.or op_le_str) (op_le.or op_le_str) ordD_mo ordD_mo ordD_br ordD_br ha hb hc hm
theorem ptd_lelt (ha : PEd X w a ta) (hb : PEd X w b tb) (hc : PEd X w c tc) (hm : lastMarks [.LtE, .Lt] [b, c] = false := by with_unfolding_all rfl) : PTd X w (.Compare a [.LtE, .Lt] [b, c] pos) (dB (dChain leD ltD ta tb tc)) := ptd_chain (op_le.or op_le_str) (op_lt.or op_lt_str) ordD_mo ordD_mo ordD_br ordD_br ha hb hc hm
theorem ptd_ltlt (ha : PEd X w a ta) (hb : PEd X w b tb) (hc : PEd X w c tc) (hm : lastMarks [.Lt, .Lt] [b, c] = false := by with_unfolding_all rfl) : PTd X w (.Compare a [.Lt, .Lt] [b, c] pos) (dB (dChain ltD ltD ta tb tc)) := ptd_chain (op_lt.or op_lt_str) (op_lt.or op_lt_str) ordD_mo ordD_mo ordD_br ordD_br ha hb hc hm
theorem ptd_in (ha : PEd X w a ta) (hb : PEd X w b tb) (hm : behindInMarks .In b = false := by rfl) : PTd X w (.Compare a [.In] [b] pos) (dB (dOp (inStrsD false) ta tb)) := ptd_cmp op_in_seq hm inStrsD_mo inStrs_br ha hb
theorem ptd_notIn (ha : PEd X w a ta) (hb : PEd X w b tb) (hm : behindInMarks .NotIn b = false := by rfl) : PTd X w (.Compare a [.NotIn] [b] pos) (dB (dOp (inStrsD true) ta tb)) := ptd_cmp op_notIn_seq hm inStrsD_mo inStrs_br ha hb
theorem sign_br : Br2 X.K (fun x y H Q => ∃ (c : Nat) (z : Str), x = .str ⟨#[c]⟩ ∧ y = .str z ∧ Q (.bl (!decide (c ∈ z.cps.toList))) H) (signD true) := by
  rintro g W H v u x y Q k dx dy ⟨c, z, rfl, rfl, h⟩
  cases dx
  cases dy
  exact ⟨c, z, rfl, rfl, h.now k (.bl _)⟩
theorem ptd_notSign (ha : PEd X w a ta) (hb : PEd X w b tb) (hm : behindInMarks .NotIn b = false := by rfl) : PTd X w (.Compare a [.NotIn] [b] pos) (dB (dOp (signD true) ta tb)) := ptd_cmp op_notIn_sign hm signD_mo sign_br ha hb
end
end Pd
/-! Sorted texts: one list alone is sorted; lists of texts compared. -/
namespace Pd
open PySem PySem.Spec PyProof.Rows L2
def leS (a b : Str) : Prop := ¬ b.cps.toList < a.cps.toList
theorem leS_trans {a b c : Str} (h1 : leS a b) (h2 : leS b c) : leS a c := List.not_lt.mpr (List.le_trans (List.not_lt.mp h1) (List.not_lt.mp h2))
theorem leS_anti {a b : Str} (h1 : leS a b) (h2 : leS b a) : a = b := by
  have e := List.le_antisymm (List.not_lt.mp h1) (List.not_lt.mp h2)
  cases a with
  | mk x =>
    cases b with
    | mk y =>
      have e2 : x.toList = y.toList := e
      rw [Array.toList_inj.mp e2]
theorem rising_iff : ∀ (l : List Str) (p : Str), risingS p l = true → (p :: l).Pairwise leS
  | [], p, _ => List.pairwise_singleton _ _
  | x :: l, p, h => by
    unfold risingS at h
    rw [Bool.and_eq_true] at h
    have t := rising_iff l x h.2
    have px : leS p x := by
      have z : ltCps x.cps.toList p.cps.toList = false := by simpa using h.1
      rw [ltCps_eq] at z
      exact of_decide_eq_false z
    refine List.pairwise_cons.mpr ⟨fun y hy => ?_, t⟩
    rcases List.mem_cons.mp hy with e | e
    · rw [e]; exact px
    · exact leS_trans px ((List.pairwise_cons.mp t).1 y e)
theorem sorted_pw {l : List Str} (h : sortedS l = true) : l.Pairwise leS := by
  cases l with
  | nil => exact List.Pairwise.nil
  | cons x l => exact rising_iff l x h
theorem sorted_uniq {a b : List Str} (h1 : sortedS a = true) (h2 : sortedS b = true) (p : a.Perm b) : a = b :=
  List.Perm.eq_of_pairwise (le := leS) (fun _ _ _ _ => leS_anti) (sorted_pw h1) (sorted_pw h2) p
theorem perm_nd {a b : List Str} (h1 : a.Nodup) (h2 : b.Nodup) (h : ∀ k, k ∈ a ↔ k ∈ b) : a.Perm b := by
  induction a generalizing b with
  | nil =>
    cases b with
    | nil => exact List.Perm.refl _
    | cons x b => exact absurd ((h x).mpr List.mem_cons_self) List.not_mem_nil
  | cons x a ih =>
    have hx := (h x).mp List.mem_cons_self
    have n := List.nodup_cons.mp h1
    refine (List.Perm.cons x (ih n.2 (h2.erase x) fun k => ?_)).trans (List.perm_cons_erase hx).symm
    rw [h2.mem_erase_iff]
    constructor
    · intro hk
      exact ⟨fun e => n.1 (by rw [← e]; exact hk), (h k).mp (List.mem_cons_of_mem _ hk)⟩
    · rintro ⟨ne, hk⟩
      exact (List.mem_cons.mp ((h k).mpr hk)).resolve_left ne
theorem eqv_strs : ∀ (a b : List Str), PyData.eqvAll (toPs (a.map .str)) (toPs (b.map .str)) = decide (a = b)
  | [], [] => by rw [List.map_nil, toPs, PyData.eqvAll]; rfl
  | [], y :: b => by rw [List.map_nil, List.map_cons, toPs, toPs, PyData.eqvAll]; rfl
  | x :: a, [] => by rw [List.map_nil, List.map_cons, toPs, toPs, PyData.eqvAll]; rfl
  | x :: a, y :: b => by
    have e : PyData.eqv (toP (.str x)) (toP (.str y)) = (x == y) := eqd_str x y
    rw [List.map_cons, List.map_cons, toPs, toPs, PyData.eqvAll, e, eqv_strs a b, Bool.eq_iff_iff, Bool.and_eq_true, beq_iff_eq, decide_eq_true_eq, decide_eq_true_eq]
    constructor
    · rintro ⟨rfl, rfl⟩; rfl
    · intro h; cases h; exact ⟨rfl, rfl⟩
theorem eqd_lstrs {a b : List Str} : eqd (.lst (a.map .str)) (.lst (b.map .str)) = decide (a = b) := by
  unfold eqd
  rw [toP, toP, PyData.eqv]
  exact eqv_strs a b
/-- texts of signs below 128 -/
def Asc' (ts : List Str) : Prop := ∀ t ∈ ts, ∀ c ∈ t.cps.toList, c < 128
theorem shp_lstrs {ts : List Str} (h : Asc' ts) : shp (.lst (ts.map .str)) = true := by
  have z : ∀ ts : List Str, Asc' ts → PyData.canLayAll0 (toPs (ts.map .str)) = true := by
    intro ts
    induction ts with
    | nil => intro _; rw [List.map_nil, toPs, PyData.canLayAll0]
    | cons x xs ih =>
      intro h
      have hx := (sz_str (h x List.mem_cons_self)).lay
      rw [List.map_cons, toPs, PyData.canLayAll0, hx, ih fun t ht => h t (List.mem_cons_of_mem _ ht)]
      rfl
  have d := dep_strs ts
  unfold Pd.shp SeqAt.shaped
  rw [canP, canP_strs, toP, PyData.canLay0, z ts h, PyData.depth, decide_eq_true (show _ ≤ _ from by omega)]
  rfl
end Pd
/-! xs == [], xs != [] of lists of whatever. -/
namespace Pd
open PySem PySem.Spec PyProof.Rows L2
theorem ne_lengths (a b : Addr) (xs ys : Array Value) (n m : Nat) (dd dd2 : Option Addr) (sl sl2 : Array (Option Value)) (c : (xs.size != ys.size) = true) :
    Meets (Builtin.«list.__ne__» ⟨[.ref a, .ref b], []⟩) (fun _ R s => s.heap.get? a = some { cls := .type "list", dict := dd, data := .seq xs n, slots := sl } ∧ s.heap.get? b = some { cls := .type "list", dict := dd2, data := .seq ys m, slots := sl2 } ∧ R (.ok (.ret (.bool true))) s) :=
  .of_wp fun prog w A R s h => by
    obtain ⟨hp, g, d, tk, os⟩ := s
    obtain ⟨ha, hb, q⟩ := h
    have sub := AutoSeq1.sub_list_list
    wp_walk using wpAny_loadPart' ha, wpAny_loadPart' hb
    exact ⟨_, rfl, q⟩
section
variable {X : Cx}
def rEqNil (neg : Bool) : R2 := fun x y H Q => ∃ a b xs, x = .ref a ∧ y = .ref b ∧ H a = some (.lst xs) ∧ H b = some (.lst []) ∧ Q (.bl (if neg then !xs.isEmpty else xs.isEmpty)) H
theorem op_eqNil (hu : X.A.units + 64 < cLine) : OpR X (compareOp .Eq) (rEqNil false) := by
  intro pins s σ H x y v u Q I rx ry h
  obtain ⟨a, b, xs, rfl, rfl, ha, hb, q⟩ := h
  by_cases e : xs = []
  · subst e
    exact op_eqD (X := X) hu pins s σ H _ _ v u Q I rx ry ⟨.list [], .list [], .lst (SqL.of ha) .nil, .lst (SqL.of hb) .nil, by decide +kernel, by decide +kernel, q⟩
  · cases rx
    cases ry
    obtain ⟨its, r, ha1, _⟩ := I.list (SqL.of ha)
    obtain ⟨its2, r2, hb1, _⟩ := I.list (SqL.of hb)
    cases r2
    obtain ⟨⟨cls, dd, data, sl⟩, ho, hc, n, hd⟩ := ha1.isList
    obtain ⟨⟨cls2, dd2, data2, sl2⟩, ho2, hc2, n2, hd2⟩ := hb1.isList
    simp only at hc hd hc2 hd2
    subst hc hd hc2 hd2
    have ta : s.TypeIs (.ref a) "list" := ⟨_, ho, rfl⟩
    have tb : s.TypeIs (.ref b) "list" := ⟨_, ho2, rfl⟩
    have big : (its.toArray.size != ([] : List Value).toArray.size) = true := by
      have := r.length
      have : xs.length ≠ 0 := fun z => e (List.length_eq_zero_iff.mp z)
      simp
      intro z
      rw [z] at r
      cases r
      exact e rfl
    have q' : EP X pins σ Q (.bool false) s := ⟨.bl false, H, I, rfl, by
      rw [if_neg Bool.false_ne_true, show xs.isEmpty = false by cases xs; exact absurd rfl e; rfl] at q
      exact q⟩
    exact wpAny_richCompare_same_room (op := .Eq) ta tb PySem.F.slot_list_eq (call_meets PySem.F.slot_list_eq ta PySem.F.entry_list_eq (PySem.F.args_list_eq_2 _ _) (SeqAt.list_eq_lengthsAt a b its.toArray _ n n2 dd dd2 sl sl2 big) ⟨ho, ho2, (fun z => nomatch z), q'⟩) (by omega)
theorem op_neNil (hu : X.A.units + 64 < cLine) : OpR X (compareOp .NotEq) (rEqNil true) := by
  intro pins s σ H x y v u Q I rx ry h
  obtain ⟨a, b, xs, rfl, rfl, ha, hb, q⟩ := h
  by_cases e : xs = []
  · subst e
    exact op_neD (X := X) hu pins s σ H _ _ v u Q I rx ry ⟨.list [], .list [], .lst (SqL.of ha) .nil, .lst (SqL.of hb) .nil, by decide +kernel, by decide +kernel, q⟩
  · cases rx
    cases ry
    obtain ⟨its, r, ha1, _⟩ := I.list (SqL.of ha)
    obtain ⟨its2, r2, hb1, _⟩ := I.list (SqL.of hb)
    cases r2
    obtain ⟨⟨cls, dd, data, sl⟩, ho, hc, n, hd⟩ := ha1.isList
    obtain ⟨⟨cls2, dd2, data2, sl2⟩, ho2, hc2, n2, hd2⟩ := hb1.isList
    simp only at hc hd hc2 hd2
    subst hc hd hc2 hd2
    have ta : s.TypeIs (.ref a) "list" := ⟨_, ho, rfl⟩
    have tb : s.TypeIs (.ref b) "list" := ⟨_, ho2, rfl⟩
    have big : (its.toArray.size != ([] : List Value).toArray.size) = true := by
      have := r.length
      have : xs.length ≠ 0 := fun z => e (List.length_eq_zero_iff.mp z)
      simp
      intro z
      rw [z] at r
      cases r
      exact e rfl
    have q' : EP X pins σ Q (.bool true) s := ⟨.bl true, H, I, rfl, by
      rw [if_pos rfl, show xs.isEmpty = false by cases xs; exact absurd rfl e; rfl] at q
      exact q⟩
    exact wpAny_richCompare_same_room (op := .NotEq) ta tb PySem.F.slot_list_ne (call_meets PySem.F.slot_list_ne ta PySem.F.entry_list_ne (PySem.F.args_list_ne_2 _ _) (ne_lengths a b its.toArray _ n n2 dd dd2 sl sl2 big) ⟨ho, ho2, (fun z => nomatch z), q'⟩) (by omega)
variable {w : Wd} {a b : Expr} {ta tb : TDE} {pos : Pos}
def eqNilD (neg : Bool) : DD := fun x y Q => ∃ xs, x = .lst xs ∧ y = .lst [] ∧ Q (.bl (if neg then !xs.isEmpty else xs.isEmpty))
theorem eqNilD_mo {n : Bool} : Mo2 (eqNilD n) := fun _ _ _ _ q ⟨xs, a, b, h⟩ => ⟨xs, a, b, q _ h⟩
theorem eqNil_br {n : Bool} : Br2 X.K (rEqNil n) (eqNilD n) := by
  rintro g W H v u x y Q k dx dy ⟨xs, rfl, rfl, h⟩
  cases dx with
  | @lst p us _ a1 a2 =>
    cases dy with
    | @lst q zs _ b1 b2 =>
      cases b2
      have e : us.isEmpty = xs.isEmpty := by
        cases a2 with
        | nil => rfl
        | cons _ _ => rfl
      exact ⟨p, q, us, rfl, rfl, (hid_some a1).2, (hid_some b1).2, by rw [e]; exact h.now k (.bl _)⟩
theorem ped_eqNil {k : Nat} (hr : Room k X.A) (ha : PEd X w a ta) (hb : PEd X w b tb) : PEd X w (.Compare a [.Eq] [b] pos) (dOp (eqNilD false) ta tb) := ped_cmp (op_eqNil hr.units) (nobehind _ (by decide) (by decide)) eqNilD_mo eqNil_br ha hb
theorem ped_neNil {k : Nat} (hr : Room k X.A) (ha : PEd X w a ta) (hb : PEd X w b tb) : PEd X w (.Compare a [.NotEq] [b] pos) (dOp (eqNilD true) ta tb) := ped_cmp (op_neNil hr.units) (nobehind _ (by decide) (by decide)) eqNilD_mo eqNil_br ha hb
theorem ptd_eqNil {k : Nat} (hr : Room k X.A) (ha : PEd X w a ta) (hb : PEd X w b tb) : PTd X w (.Compare a [.Eq] [b] pos) (dB (dOp (eqNilD false) ta tb)) := ptd_cmp (op_eqNil hr.units) (nobehind _ (by decide) (by decide)) eqNilD_mo eqNil_br ha hb
theorem ptd_neNil {k : Nat} (hr : Room k X.A) (ha : PEd X w a ta) (hb : PEd X w b tb) : PTd X w (.Compare a [.NotEq] [b] pos) (dB (dOp (eqNilD true) ta tb)) := ptd_cmp (op_neNil hr.units) (nobehind _ (by decide) (by decide)) eqNilD_mo eqNil_br ha hb
end
end Pd
/-! New lists: comprehensions of one and of two walks, a def that returns one, a def's list kept as one's own. -/
namespace Pd
open PySem PySem.Spec PyProof.Rows L2
section
variable {K : PySem.W.Frag} {w : Wd} {W : Addr → Bool} {own : Ow} {r : En} {σ : L2.St} {H H' : Hp}
/-- a target that takes no list over -/
structure GDs (K : PySem.W.Frag) (g : TG) (gd : TDG) (vs : List Nat) : Prop where
  run : ∀ (w : Wd) (W : Addr → Bool) (own : Ow) (r : En) (σ : L2.St) (H : Hp) (v : V) (d : Da) (Q : En → Prop), Stt K w W own r σ H → Dv K w.g (hid W H) v d → gd d r Q →
    g v σ H fun σ' H' => H' = H ∧ (∀ us, (∀ i ∈ vs, i ∈ us) → L2.wipe σ' us = L2.wipe σ us) ∧ ∃ own' r', (∀ j a, own' j a → own j a) ∧ Stt K w W own' r' σ' H ∧ Q r'
  mo : ∀ d r Q Q', (∀ r, Q r → Q' r) → gd d r Q → gd d r Q'
theorem gds_name (i : Nat) : GDs K (gName i) (dgName i) [i] := by
  refine ⟨fun w W own r σ H v d Q S dv h => ?_, fun d r Q Q' q h => q _ h⟩
  exact ⟨rfl, fun us hu => wipe_set (hu i List.mem_cons_self), _, _, fun j a h => h.2, S.setS (i := i) dv, h⟩
theorem gds_tup2 (i j : Nat) : GDs K (gTup K 2 (gCons (gName i) (gCons (gName j) gNil))) (dgTup2 i j) [i, j] := by
  refine ⟨fun w W own r σ H v d Q S dv h => ?_, fun d r Q Q' q ⟨x, y, e, z⟩ => ⟨x, y, e, q _ z⟩⟩
  obtain ⟨x, y, e, h⟩ := h
  obtain ⟨c, xs, rfl, hq, hd⟩ := items_sq dv e
  cases hd with
  | cons d1 t1 =>
    cases t1 with
    | cons d2 t2 =>
      cases t2
      have S2 := (S.setS (i := i) d1).setS (i := j) d2
      refine ⟨c, _, rfl, hq, rfl, _, _, rfl, _, _, rfl, rfl, rfl, fun us hu => ?_, _, _, fun k a h => h.2.2, S2, h⟩
      rw [wipe_set (hu j (by simp)), wipe_set (hu i (by simp))]

/-! ### a list that grows at D -/
structure Gro (K : PySem.W.Frag) (g : Option Addr) (W : Addr → Bool) (H1 : Hp) (D : Addr) (H' : Hp) (ad : List Da) : Prop where
  ext : Ext g H1 H'
  bag : BagI K g (hideD W D) H'
  at_ : ∃ av, H' D = some (.lst av) ∧ DvAll K g (hid (hideD W D) H') av ad
theorem hidD_upd {W : Addr → Bool} {H : Hp} {D : Addr} {o : HO} : hid (hideD W D) (upd H D o) = hid (hideD W D) H := hid_upd hideD_at
section
variable {g : Option Addr} {H1 : Hp} {D : Addr} {ad : List Da}
theorem Gro.go (G : Gro K g W H1 D H ad) (gne : g ≠ some D) (gW : ∀ a, g = some a → hideD W D a = true) (e : Ext g H H') (b : BagI K g (hideD W D) H') : Gro K g W H1 D H' ad := by
  obtain ⟨av, h1, h2⟩ := G.at_
  exact ⟨G.ext.trans e, b, av, e D _ gne h1, DvAll.mono (e.hid gW) _ _ h2⟩
theorem Gro.push (G : Gro K g W H1 D H ad) (hD : H1 D = none) (gne : g ≠ some D) {v : V} {y : Da} (d : Dv K g (hid (hideD W D) H) v y) : ∃ av, H D = some (.lst av) ∧ av.length = ad.length ∧ Gro K g W H1 D (upd H D (.lst (av ++ [v]))) (ad ++ [y]) := by
  obtain ⟨av, h1, h2⟩ := G.at_
  refine ⟨av, h1, h2.len, ⟨fun b o nb hb => ?_, fun a xs ha hx => ?_⟩, fun a ha => ?_, av ++ [v], upd_same, by rw [hidD_upd]; exact h2.app (.cons d .nil)⟩
  · rw [upd_ne (ne_of_none hb hD)]
    exact G.ext b o nb hb
  · have ne : a ≠ D := fun z => gne (z ▸ ha)
    rw [upd_ne ne]
    exact G.ext.last a xs ha hx
  · obtain ⟨x, y, z, c, cs, q1, q2⟩ := G.bag a ha
    have ne : a ≠ D := fun z => gne (z ▸ ha)
    exact ⟨x, y, z, c, cs, by rw [upd_ne ne]; exact q1, by rw [hidD_upd]; exact q2⟩
/-- the list is done: it is new -/
theorem Gro.new (G : Gro K g W H1 D H ad) (hD : H1 D = none) (k : OkW K g W H1) : ∃ xs Hm, Ext g H1 Hm ∧ OkW K g W Hm ∧ Hm D = none ∧ DvAll K g (hid W Hm) xs ad ∧ H = upd Hm D (.lst xs) := by
  obtain ⟨av, h1, h2⟩ := G.at_
  have gne : g ≠ some D := fun z => by
    obtain ⟨o, q⟩ := k.al D (k.gW D z)
    rw [hD] at q; cases q
  have WD : W D = false := by
    cases y : W D with
    | false => rfl
    | true => obtain ⟨o, q⟩ := k.al D y; rw [hD] at q; cases q
  have eq : hid (hideD W D) H = hid W (cutAt D H) := by
    funext b
    unfold hid
    by_cases z : b = D
    · subst z
      rw [hideD_at, if_pos rfl, WD, if_neg Bool.false_ne_true, cutAt_same]
    · rw [hideD_ne z, cutAt_ne z]
  refine ⟨av, cutAt D H, ⟨fun b o nb hb => ?_, fun a xs ha hx => ?_⟩, ⟨fun a ha => ?_, k.gW, fun a ha => ?_⟩, cutAt_same, by rw [← eq]; exact h2, ?_⟩
  · rw [cutAt_ne (ne_of_none hb hD)]
    exact G.ext b o nb hb
  · have ne : a ≠ D := fun z => gne (z ▸ ha)
    obtain ⟨ys, q1, q2⟩ := G.ext.last a xs ha hx
    exact ⟨ys, by rw [cutAt_ne ne]; exact q1, q2⟩
  · obtain ⟨x, y, z, c, cs, q1, q2⟩ := G.bag a ha
    have ne : a ≠ D := fun z => gne (z ▸ ha)
    exact ⟨x, y, z, c, cs, by rw [cutAt_ne ne]; exact q1, by rw [← eq]; exact q2⟩
  · have ne : a ≠ D := fun z => by rw [z, WD] at ha; cases ha
    rw [cutAt_ne ne]
    by_cases y : g = some a
    · obtain ⟨_, _, _, _, _, q, _⟩ := G.bag a y
      exact ⟨_, q⟩
    · obtain ⟨o, q⟩ := k.al a ha
      exact ⟨o, G.ext a o y q⟩
  · funext b
    by_cases z : b = D
    · rw [z, h1, upd_same]
    · rw [upd_ne z, cutAt_ne z]
end
/-- all but the bag and what stands at D is kept -/
structure Xt (g : Option Addr) (D : Addr) (H H' : Hp) : Prop where
  out : ∀ b o, b ≠ D → g ≠ some b → H b = some o → H' b = some o
  last : ∀ a xs, g = some a → H a = some (.lst xs) → ∃ ys, H' a = some (.lst ys) ∧ ys[3]? = xs[3]?
theorem Xt.of {g : Option Addr} {D : Addr} {H H' : Hp} (e : Ext g H H') : Xt g D H H' := ⟨fun b o _ n h => e b o n h, e.last⟩
theorem Xt.trans {g : Option Addr} {D : Addr} {H H1 H2 : Hp} (a : Xt g D H H1) (b : Xt g D H1 H2) : Xt g D H H2 := ⟨fun c o n1 n2 h => b.out c o n1 n2 (a.out c o n1 n2 h), fun c xs hg h => by
  obtain ⟨ys, h1, h2⟩ := a.last c xs hg h
  obtain ⟨zs, h3, h4⟩ := b.last c ys hg h1
  exact ⟨zs, h3, h4.trans h2⟩⟩
theorem Xt.upd {g : Option Addr} {D : Addr} {H : Hp} {o : HO} (gne : g ≠ some D) : Xt g D H (upd H D o) := ⟨fun b o n _ h => by rw [upd_ne n]; exact h, fun a xs ha h => ⟨xs, by rw [upd_ne (show a ≠ D from fun z => gne (z ▸ ha))]; exact h, rfl⟩⟩
theorem Xt.hid {g : Option Addr} {D : Addr} {H H' : Hp} {W : Addr → Bool} (gW : ∀ a, g = some a → W a = true) (WD : W D = true) (e : Xt g D H H') : Sm (hid W H) (hid W H') := fun a o q => by
  obtain ⟨e1, e2⟩ := hid_some q
  rw [hid_no e1]
  exact e.out a o (fun z => by rw [z, WD] at e1; cases e1) (fun z => by rw [gW a z] at e1; cases e1) e2
theorem Stt.xt {D : Addr} (S : Stt K w W own r σ H) (WD : W D = true) (h0 : w.H0 D = none) (oD : ∀ j, ¬ own j D) (e : Xt w.g D H H') (k : OkW K w.g W H') : Stt K w W own r σ H' := by
  refine ⟨k, ⟨fun b o n h => ?_, fun a xs ha h => ?_⟩, S.w0, S.g0, S.oW, fun i j a h1 h2 => ⟨(S.inj i j a h1 h2).1, (S.inj i j a h1 h2).2.up fun o z => e.out a o (fun y => oD i (y ▸ h1)) (S.oW i a h1).2.2 z⟩, S.len, fun i d h n => ?_⟩
  · exact e.out b o (ne_of_none h h0) n (S.base b o n h)
  · obtain ⟨ys, q1, q2⟩ := S.base.last a xs ha h
    obtain ⟨zs, q3, q4⟩ := e.last a ys ha q1
    exact ⟨zs, q3, q4.trans q2⟩
  · obtain ⟨v, h1, h2⟩ := S.sl i d h n
    refine ⟨v, h1, ?_⟩
    have sm := e.hid S.ok.gW WD
    cases d with
    | no => trivial
    | dat d => exact Dv.mono sm _ _ h2
    | own ds =>
      obtain ⟨a, xs, q1, q2, q3, q4⟩ := h2
      exact ⟨a, xs, q1, q2, e.out a _ (fun z => oD i (z ▸ q1.1)) (S.oW i a q1.1).2.2 q3, DvAll.mono sm _ _ q4⟩
    | reg ds =>
      obtain ⟨a, xs, q1, q2, q3, q4⟩ := h2
      have kp : ∀ b o, own i b → H b = some o → H' b = some o := fun b o q z => e.out b o (fun y => oD i (y ▸ q)) (S.oW i b q).2.2 z
      exact ⟨a, xs, q1, q2, kp a _ q1 q3, DvAll.mono (cutAt_sm (vis_up (fun a o q z => ⟨q, kp a o q z⟩) sm)) _ _ q4⟩
end

/-! ### the turns -/
def lcK (gd : TDG) (tt : TDT) (te : TDE) (vs : List Nat) (r : En) (k : List Da → Prop) : List Da → List Da → Prop
  | [], acc => k acc
  | d :: ds, acc => gd d (wipeD r vs) fun r2 => tt r2 fun b => if b = true then te r2 fun y => acc.length < sizeLine ∧ lcK gd tt te vs r k ds (acc ++ [y]) else lcK gd tt te vs r k ds acc
def lcN (gd : TDG) (tt : TDT) (wd1 : TDI) (gd1 : TDG) (tt1 : TDT) (te : TDE) (vs vs1 : List Nat) (r : En) (k : List Da → Prop) : List Da → List Da → Prop
  | [], acc => k acc
  | d :: ds, acc => gd d (wipeD r vs) fun r2 => tt r2 fun b => if b = true then wd1 r2 fun es => lcK gd1 tt1 te vs1 r2 (fun acc' => lcN gd tt wd1 gd1 tt1 te vs vs1 r k ds acc') es acc else lcN gd tt wd1 gd1 tt1 te vs vs1 r k ds acc
theorem lcK_mo {gd : TDG} {tt : TDT} {te : TDE} {vs : List Nat} {r : En} (mg : ∀ d r Q Q', (∀ r, Q r → Q' r) → gd d r Q → gd d r Q') (mt : ∀ r Q Q', (∀ b, Q b → Q' b) → tt r Q → tt r Q') (me : ∀ r Q Q', (∀ b, Q b → Q' b) → te r Q → te r Q') {k k' : List Da → Prop} (q : ∀ d, k d → k' d) :
    ∀ ds acc, lcK gd tt te vs r k ds acc → lcK gd tt te vs r k' ds acc
  | [], acc, h => q _ h
  | d :: ds, acc, h => mg _ _ _ _ (fun r2 z => mt _ _ _ (fun b z => ite_mo (me _ _ _ fun y z => ⟨z.1, lcK_mo mg mt me q ds _ z.2⟩) (lcK_mo mg mt me q ds _) z) z) h
theorem lcN_mo {gd : TDG} {tt : TDT} {wd1 : TDI} {gd1 : TDG} {tt1 : TDT} {te : TDE} {vs vs1 : List Nat} {r : En} (mg : ∀ d r Q Q', (∀ r, Q r → Q' r) → gd d r Q → gd d r Q') (mt : ∀ r Q Q', (∀ b, Q b → Q' b) → tt r Q → tt r Q') (mw : ∀ r Q Q', (∀ b, Q b → Q' b) → wd1 r Q → wd1 r Q')
    (mg1 : ∀ d r Q Q', (∀ r, Q r → Q' r) → gd1 d r Q → gd1 d r Q') (mt1 : ∀ r Q Q', (∀ b, Q b → Q' b) → tt1 r Q → tt1 r Q') (me : ∀ r Q Q', (∀ b, Q b → Q' b) → te r Q → te r Q') {k k' : List Da → Prop} (q : ∀ d, k d → k' d) :
    ∀ ds acc, lcN gd tt wd1 gd1 tt1 te vs vs1 r k ds acc → lcN gd tt wd1 gd1 tt1 te vs vs1 r k' ds acc
  | [], acc, h => q _ h
  | d :: ds, acc, h => mg _ _ _ _ (fun r2 z => mt _ _ _ (fun b z => ite_mo (mw _ _ _ fun es z => lcK_mo mg1 mt1 me (fun acc' => lcN_mo mg mt mw mg1 mt1 me q ds acc') es acc z) (lcN_mo mg mt mw mg1 mt1 me q ds acc) z) z) h
end Pd
/-! Comprehensions as new lists. -/
namespace Pd
open PySem PySem.Spec PyProof.Rows L2
/-- what a new list must give -/
def NewL (K : PySem.W.Frag) (g : Option Addr) (W : Addr → Bool) (H : Hp) (Q : VK) (ds : List Da) : Prop := ∀ p xs H1, Ext g H H1 → OkW K g W H1 → H1 p = none → DvAll K g (hid W H1) xs ds → Q (.ref p) (upd H1 p (.lst xs))
theorem gro_start {K : PySem.W.Frag} {g : Option Addr} {W : Addr → Bool} {H1 : Hp} {D : Addr} (k : OkW K g W H1) (hD : H1 D = none) : Gro K g W H1 D (upd H1 D (.lst [])) [] := by
  refine ⟨Ext.of (sm_upd hD), fun a ha => ?_, [], upd_same, .nil⟩
  obtain ⟨x, y, z, c, cs, b1, b2⟩ := k.bag a ha
  obtain ⟨c1, c2⟩ := hid_some b2
  have ne : a ≠ D := ne_of_none b1 hD
  have ne2 : c ≠ D := ne_of_none c2 hD
  exact ⟨x, y, z, c, cs, by rw [upd_ne ne]; exact b1, by rw [hid_no (by rw [hideD_ne ne2]; exact c1), upd_ne ne2]; exact c2⟩
theorem drop_at {ds : List Da} {i : Nat} {d : Da} (hd : ds[i]? = some d) : ds.drop i = d :: ds.drop (i + 1) := by
  obtain ⟨h1, h2⟩ := List.getElem?_eq_some_iff.mp hd
  rw [List.drop_eq_getElem_cons h1, h2]
section
variable {K : PySem.W.Frag} {w : Wd}
theorem Gro.sm {g : Option Addr} {W : Addr → Bool} {H1 H' : Hp} {D : Addr} {ad : List Da} (G : Gro K g W H1 D H' ad) (k : OkW K g W H1) (hD : H1 D = none) : Sm (hid W H1) (hid (hideD W D) H') := fun a o z => by
  obtain ⟨q1, q2⟩ := hid_some z
  have ne : a ≠ D := ne_of_none q2 hD
  rw [hid_no (by rw [hideD_ne ne]; exact q1)]
  exact G.ext a o (fun z => by rw [k.gW a z] at q1; cases q1) q2
theorem lcF_in {g : TG} {gd : TDG} {gvs vs : List Nat} {tt : TDT} {te : TDE} {σ : L2.St} {H : Hp} {Q : VK} {wd : TDI} {W : Addr → Bool} {own : Ow} {r : En} (G : GDs K g gd gvs) (gmo : ∀ v σ H Q Q', (∀ a b, Q a b → Q' a b) → g v σ H Q → g v σ H Q') (sub : ∀ i ∈ gvs, i ∈ vs)
    (mt : ∀ r Q Q', (∀ b, Q b → Q' b) → tt r Q → tt r Q') (me : ∀ r Q Q', (∀ b, Q b → Q' b) → te r Q → te r Q') (mw : ∀ r Q Q', (∀ ds, Q ds → Q' ds) → wd r Q → wd r Q')
    (S : Stt K w W own r σ H) (h : wd r fun ds => lcK gd tt te vs r (NewL K w.g W H Q) ds []) : tLc (liI K w wd) g (liT K w tt) (liE K w te) vs σ H Q := by
  refine ⟨W, own, r, S, mw _ _ _ (fun ds q J H1 e1 k1 wk => ?_) h⟩
  intro D hD
  have S1 := S.ext e1 k1
  have gne : w.g ≠ some D := fun z => by
    obtain ⟨o, z2⟩ := S1.ok.al D (S1.ok.gW D z)
    rw [hD] at z2; cases z2
  refine ⟨fun i m H' => m = ds.length - i ∧ i ≤ ds.length ∧ ∃ ad, Gro K w.g W H1 D H' ad ∧ lcK gd tt te vs r (NewL K w.g W H Q) (ds.drop i) ad, ⟨ds.length, by simp, Nat.zero_le _, [], gro_start k1 hD, by rw [List.drop_zero]; exact q⟩, ?_⟩
  rintro i m H' ⟨rfl, hi', ad, gr, f⟩
  obtain ⟨av, hav, _⟩ := gr.at_
  have SD : Stt K w (hideD W D) own r σ H' := S1.hideD hD gr.ext hav gr.bag
  have sm := gr.sm k1 hD
  have sm' : Sm (hid W H1) H' := fun a o z => (hid_some (sm a o z)).2
  obtain ⟨w1, w2, w3⟩ := wk i H' sm'
  by_cases hl : i < ds.length
  · refine .inr ⟨w1 hl, fun H2 => ∃ ad, Gro K w.g W H1 D H2 ad ∧ lcK gd tt te vs r (NewL K w.g W H Q) (ds.drop (i + 1)) ad, fun H2 z => ⟨ds.length - (i + 1), by omega, rfl, by omega, z⟩, fun x H2 y => ?_⟩
    obtain ⟨sH, d, hd, dv⟩ := w3 x H2 hl y
    have e2 : Ext w.g H' H2 := Ext.of sH
    have k2 : OkW K w.g (hideD W D) H2 := SD.ok.same sH
    have S2 := (SD.ext e2 k2).wipe vs
    have dvx : Dv K w.g (hid (hideD W D) H2) x d := by
      refine dv _ (fun a o z => e2.hid SD.ok.gW a o (sm a o z)) fun b o nb z => ?_
      rw [hid_no]
      · exact z
      · cases y' : hideD W D b with
        | false => rfl
        | true =>
          obtain ⟨o', z'⟩ := SD.ok.al b y'
          rw [nb] at z'; cases z'
    rw [drop_at hd] at f
    have gr2 := gr.go gne SD.ok.gW e2 k2.bag
    refine gmo _ _ _ _ _ ?_ (G.run w (hideD W D) own (wipeD r vs) (L2.wipe σ vs) H2 x d _ S2 dvx f)
    rintro σ3 H3 ⟨rfl, wp, own3, r3, _, S3, t3⟩
    refine ⟨by rw [wp vs sub, wipe_idem], hideD W D, own3, r3, S3, mt _ _ _ (fun b z H4 e4 k4 => ?_) t3⟩
    have gr4 := gr2.go gne SD.ok.gW e4 k4.bag
    refine ite_mo (fun z => ?_) (fun z => ⟨ad, gr4, z⟩) z
    refine ⟨hideD W D, own3, r3, S3.ext e4 k4, me _ _ _ (fun y z v H5 e5 k5 d5 => ?_) z⟩
    obtain ⟨av5, q1, q2, q3⟩ := (gr4.go gne SD.ok.gW e5 k5.bag).push hD gne d5
    exact ⟨av5, q1, by rw [q2]; exact z.1, _, q3, z.2⟩
  · refine .inl ⟨w2 (by omega), ?_⟩
    rw [List.drop_eq_nil_of_le (by omega)] at f
    obtain ⟨xs, Hm, m1, m2, m3, m4, rfl⟩ := gr.new hD k1
    exact f D xs Hm (e1.trans m1) m2 m3 m4
theorem lcF2_in {g g1 : TG} {gd gd1 : TDG} {gvs gvs1 vs vs1 : List Nat} {tt tt1 : TDT} {te : TDE} {σ : L2.St} {H : Hp} {Q : VK} {wd wd1 : TDI} {W : Addr → Bool} {own : Ow} {r : En} (G : GDs K g gd gvs) (gmo : ∀ v σ H Q Q', (∀ a b, Q a b → Q' a b) → g v σ H Q → g v σ H Q') (sub : ∀ i ∈ gvs, i ∈ vs)
    (G1 : GDs K g1 gd1 gvs1) (gmo1 : ∀ v σ H Q Q', (∀ a b, Q a b → Q' a b) → g1 v σ H Q → g1 v σ H Q') (sub1 : ∀ i ∈ gvs1, i ∈ vs1)
    (mt : ∀ r Q Q', (∀ b, Q b → Q' b) → tt r Q → tt r Q') (mt1 : ∀ r Q Q', (∀ b, Q b → Q' b) → tt1 r Q → tt1 r Q') (me : ∀ r Q Q', (∀ b, Q b → Q' b) → te r Q → te r Q') (mw : ∀ r Q Q', (∀ ds, Q ds → Q' ds) → wd r Q → wd r Q') (mw1 : ∀ r Q Q', (∀ ds, Q ds → Q' ds) → wd1 r Q → wd1 r Q')
    (S : Stt K w W own r σ H) (h : wd r fun ds => lcN gd tt wd1 gd1 tt1 te vs vs1 r (NewL K w.g W H Q) ds []) : tLc2 (liI K w wd) g (liT K w tt) (liI K w wd1) g1 (liT K w tt1) (liE K w te) vs vs1 σ H Q := by
  refine ⟨W, own, r, S, mw _ _ _ (fun ds q J H1 e1 k1 wk => ?_) h⟩
  intro D hD
  have S1 := S.ext e1 k1
  have gne : w.g ≠ some D := fun z => by
    obtain ⟨o, z2⟩ := S1.ok.al D (S1.ok.gW D z)
    rw [hD] at z2; cases z2
  have h0 : w.H0 D = none := by
    cases e : w.H0 D with
    | none => rfl
    | some o =>
      have := S1.base D o gne e
      rw [hD] at this
      cases this
  have oD : ∀ j, ¬ own j D := fun j z => by
    obtain ⟨o, q⟩ := S1.ok.al D (S1.oW j D z).1
    rw [hD] at q
    cases q
  have WD : hideD W D D = true := hideD_at
  refine ⟨fun i m H' => m = ds.length - i ∧ i ≤ ds.length ∧ ∃ ad, Gro K w.g W H1 D H' ad ∧ lcN gd tt wd1 gd1 tt1 te vs vs1 r (NewL K w.g W H Q) (ds.drop i) ad, ⟨ds.length, by simp, Nat.zero_le _, [], gro_start k1 hD, by rw [List.drop_zero]; exact q⟩, ?_⟩
  rintro i m H' ⟨rfl, hi', ad, gr, f⟩
  obtain ⟨av, hav, _⟩ := gr.at_
  have SD : Stt K w (hideD W D) own r σ H' := S1.hideD hD gr.ext hav gr.bag
  have sm := gr.sm k1 hD
  have sm' : Sm (hid W H1) H' := fun a o z => (hid_some (sm a o z)).2
  obtain ⟨w1, w2, w3⟩ := wk i H' sm'
  by_cases hl : i < ds.length
  · refine .inr ⟨w1 hl, fun H2 => ∃ ad, Gro K w.g W H1 D H2 ad ∧ lcN gd tt wd1 gd1 tt1 te vs vs1 r (NewL K w.g W H Q) (ds.drop (i + 1)) ad, fun H2 z => ⟨ds.length - (i + 1), by omega, rfl, by omega, z⟩, fun x H2 y => ?_⟩
    obtain ⟨sH, d, hd, dv⟩ := w3 x H2 hl y
    have e2 : Ext w.g H' H2 := Ext.of sH
    have k2 : OkW K w.g (hideD W D) H2 := SD.ok.same sH
    have S2 := (SD.ext e2 k2).wipe vs
    have dvx : Dv K w.g (hid (hideD W D) H2) x d := by
      refine dv _ (fun a o z => e2.hid SD.ok.gW a o (sm a o z)) fun b o nb z => ?_
      rw [hid_no]
      · exact z
      · cases y' : hideD W D b with
        | false => rfl
        | true =>
          obtain ⟨o', z'⟩ := SD.ok.al b y'
          rw [nb] at z'; cases z'
    rw [drop_at hd] at f
    have gr2 := gr.go gne SD.ok.gW e2 k2.bag
    refine gmo _ _ _ _ _ ?_ (G.run w (hideD W D) own (wipeD r vs) (L2.wipe σ vs) H2 x d _ S2 dvx f)
    rintro σ3 H3 ⟨rfl, wp, own3, r3, o3, S3, t3⟩
    refine ⟨by rw [wp vs sub, wipe_idem], hideD W D, own3, r3, S3, mt _ _ _ (fun b z H4 e4 k4 => ?_) t3⟩
    have gr4 := gr2.go gne SD.ok.gW e4 k4.bag
    refine ite_mo (fun z => ?_) (fun z => ⟨ad, gr4, z⟩) z
    have S4 := S3.ext e4 k4
    have oD3 : ∀ j, ¬ own3 j D := fun j z => oD j (o3 j D z)
    refine ⟨hideD W D, own3, r3, S4, mw1 _ _ _ (fun es z J1 H5 e5 k5 wk1 => ?_) z⟩
    have gr5 := gr4.go gne SD.ok.gW e5 k5.bag
    have S5 := S4.ext e5 k5
    refine ⟨fun j n H' => n = es.length - j ∧ j ≤ es.length ∧ ∃ ad, Gro K w.g W H1 D H' ad ∧ Xt w.g D H5 H' ∧ lcK gd1 tt1 te vs1 r3 (fun acc' => lcN gd tt wd1 gd1 tt1 te vs vs1 r (NewL K w.g W H Q) (ds.drop (i + 1)) acc') (es.drop j) ad, ⟨es.length, by simp, Nat.zero_le _, ad, gr5, Xt.of .refl, by rw [List.drop_zero]; exact z⟩, ?_⟩
    rintro j n H6 ⟨rfl, hj, ad6, gr6, x6, f6⟩
    have ok6 : OkW K w.g (hideD W D) H6 := by
      obtain ⟨av6, hav6, _⟩ := gr6.at_
      exact (S1.hideD hD gr6.ext hav6 gr6.bag).ok
    have S6 : Stt K w (hideD W D) own3 r3 σ3 H6 := S5.xt WD h0 oD3 x6 ok6
    have sm6 : Sm (hid (hideD W D) H5) (hid (hideD W D) H6) := x6.hid SD.ok.gW WD
    obtain ⟨v1, v2, v3⟩ := wk1 j H6 (fun a o z => (hid_some (sm6 a o z)).2)
    by_cases hl1 : j < es.length
    · refine .inr ⟨v1 hl1, fun H7 => ∃ ad, Gro K w.g W H1 D H7 ad ∧ Xt w.g D H5 H7 ∧ lcK gd1 tt1 te vs1 r3 (fun acc' => lcN gd tt wd1 gd1 tt1 te vs vs1 r (NewL K w.g W H Q) (ds.drop (i + 1)) acc') (es.drop (j + 1)) ad, fun H7 z => ⟨es.length - (j + 1), by omega, rfl, by omega, z⟩, fun x1 H7 y1 => ?_⟩
      obtain ⟨sH7, d1, hd1, dv1⟩ := v3 x1 H7 hl1 y1
      have e7 : Ext w.g H6 H7 := Ext.of sH7
      have k7 : OkW K w.g (hideD W D) H7 := ok6.same sH7
      have S7 := (S6.ext e7 k7).wipe vs1
      have dvx1 : Dv K w.g (hid (hideD W D) H7) x1 d1 := by
        refine dv1 _ (fun a o z => e7.hid SD.ok.gW a o (sm6 a o z)) fun b o nb z => ?_
        rw [hid_no]
        · exact z
        · cases y' : hideD W D b with
          | false => rfl
          | true =>
            obtain ⟨o', z'⟩ := ok6.al b y'
            rw [nb] at z'; cases z'
      rw [drop_at hd1] at f6
      have gr7 := gr6.go gne SD.ok.gW e7 k7.bag
      have x7 := x6.trans (Xt.of e7)
      refine gmo1 _ _ _ _ _ ?_ (G1.run w (hideD W D) own3 (wipeD r3 vs1) (L2.wipe σ3 vs1) H7 x1 d1 _ S7 dvx1 f6)
      rintro σ8 H8 ⟨rfl, wp1, own8, r8, o8, S8, t8⟩
      refine ⟨by rw [wp1 vs1 sub1, wipe_idem], hideD W D, own8, r8, S8, mt1 _ _ _ (fun b z H9 e9 k9 => ?_) t8⟩
      have gr9 := gr7.go gne SD.ok.gW e9 k9.bag
      have x9 := x7.trans (Xt.of e9)
      refine ite_mo (fun z => ?_) (fun z => ⟨ad6, gr9, x9, z⟩) z
      refine ⟨hideD W D, own8, r8, S8.ext e9 k9, me _ _ _ (fun y z v Ha ea ka da => ?_) z⟩
      obtain ⟨ava, q1, q2, q3⟩ := (gr9.go gne SD.ok.gW ea ka.bag).push hD gne da
      exact ⟨ava, q1, by rw [q2]; exact z.1, _, q3, (x9.trans (Xt.of ea)).trans (Xt.upd gne), z.2⟩
    · refine .inl ⟨v2 (by omega), ?_⟩
      have ed : es.drop j = [] := List.drop_eq_nil_of_le (by omega)
      rw [ed] at f6
      exact ⟨ad6, gr6, f6⟩
  · refine .inl ⟨w2 (by omega), ?_⟩
    rw [List.drop_eq_nil_of_le (by omega)] at f
    obtain ⟨xs, Hm, m1, m2, m3, m4, rfl⟩ := gr.new hD k1
    exact f D xs Hm (e1.trans m1) m2 m3 m4
end
section
variable {X : Cx} {w : Wd} {e : Expr} {es : List Expr} {pos : Pos}
def dLcK (wd : TDI) (gd : TDG) (tt : TDT) (te : TDE) (vs : List Nat) : TDA := fun r Q => wd r fun ds => lcK gd tt te vs r Q ds []
def dLcN (wd : TDI) (gd : TDG) (tt : TDT) (wd1 : TDI) (gd1 : TDG) (tt1 : TDT) (te : TDE) (vs vs1 : List Nat) : TDA := fun r Q => wd r fun ds => lcN gd tt wd1 gd1 tt1 te vs vs1 r Q ds []
theorem pfd_lc {elt tg iter : Expr} {ifs : List Expr} {scope : Scope} {own : List (Str × Nat)} {g : TG} {gd : TDG} {gvs : List Nat} {wd : TDI} {tt : TDT} {te : TDE} (hN : X.N.Nodup) (hi : PId X w tg iter wd) (ok : BlkOk X.N X.env.scope scope own) (G : GDs X.K g gd gvs) (gmo : ∀ v σ H Q Q', (∀ a b, Q a b → Q' a b) → g v σ H Q → g v σ H Q') (sub : ∀ i ∈ gvs, i ∈ own.map (·.2))
    (hg : ∀ (s : Shared) (H : Hp) (C : Addr) (cl : List (Str × Addr)) (fp : List Addr), PG (X.blk s H scope (compEnvC scope cl C X.env) fp) tg g)
    (ht : ∀ (s : Shared) (H : Hp) (C : Addr) (cl : List (Str × Addr)) (fp : List Addr), PTsd (X.blk s H scope (compEnvC scope cl C X.env) fp) w ifs tt)
    (he : ∀ (s : Shared) (H : Hp) (C : Addr) (cl : List (Str × Addr)) (fp : List Addr), PEd (X.blk s H scope (compEnvC scope cl C X.env) fp) w elt te)
    (s0 : Shared) (hc : X.calm = true := by rfl) (hs : ∀ x, foldedSetIterable iter X.env x = pure x := by intro _; rfl) :
    PFd X w (.ListComp elt [⟨tg, iter, ifs, 0⟩] scope pos) (dLcK wd gd tt te (own.map (·.2))) := by
  have mt := (ht s0 (fun _ => none) 0 [] []).mo
  have me := (he s0 (fun _ => none) 0 [] []).mo
  refine ⟨weE (pe_lc (tt := liT X.K w tt) (te := liE X.K w te) hc hN hi.pi ok hg (fun s H C cl fp => (ht s H C cl fp).pt) (fun s H C cl fp => (he s H C cl fp).pe) hs) ?_, fun r Q Q' q h => hi.mo _ _ _ (fun ds => lcK_mo G.mo mt me q ds []) h⟩
  rintro σ H Q ⟨W, own, r, S, h⟩
  exact lcF_in G gmo sub mt me hi.mo S h
theorem pfd_lc2 {elt tg iter tg1 iter1 : Expr} {ifs ifs1 : List Expr} {scope : Scope} {own : List (Str × Nat)} {vs1 : List Nat} {g g1 : TG} {gd gd1 : TDG} {gvs gvs1 : List Nat} {wd wd1 : TDI} {tt tt1 : TDT} {te : TDE} (hN : X.N.Nodup) (hi : PId X w tg iter wd) (ok : BlkOk X.N X.env.scope scope own) (hv : ∀ i ∈ vs1, i ∈ own.map (·.2))
    (G : GDs X.K g gd gvs) (gmo : ∀ v σ H Q Q', (∀ a b, Q a b → Q' a b) → g v σ H Q → g v σ H Q') (sub : ∀ i ∈ gvs, i ∈ own.map (·.2))
    (G1 : GDs X.K g1 gd1 gvs1) (gmo1 : ∀ v σ H Q Q', (∀ a b, Q a b → Q' a b) → g1 v σ H Q → g1 v σ H Q') (sub1 : ∀ i ∈ gvs1, i ∈ vs1)
    (hg : ∀ (s : Shared) (H : Hp) (C : Addr) (cl : List (Str × Addr)) (fp : List Addr), PG (X.blk s H scope (compEnvC scope cl C X.env) fp) tg g)
    (ht : ∀ (s : Shared) (H : Hp) (C : Addr) (cl : List (Str × Addr)) (fp : List Addr), PTsd (X.blk s H scope (compEnvC scope cl C X.env) fp) w ifs tt)
    (hi1 : ∀ (s : Shared) (H : Hp) (C : Addr) (cl : List (Str × Addr)) (fp : List Addr), PId (X.blk s H scope (compEnvC scope cl C X.env) fp) w tg1 iter1 wd1)
    (hg1 : ∀ (s : Shared) (H : Hp) (C : Addr) (cl : List (Str × Addr)) (fp : List Addr), PG (X.blk s H scope (compEnvC scope cl C X.env) fp) tg1 g1)
    (ht1 : ∀ (s : Shared) (H : Hp) (C : Addr) (cl : List (Str × Addr)) (fp : List Addr), PTsd (X.blk s H scope (compEnvC scope cl C X.env) fp) w ifs1 tt1)
    (he : ∀ (s : Shared) (H : Hp) (C : Addr) (cl : List (Str × Addr)) (fp : List Addr), PEd (X.blk s H scope (compEnvC scope cl C X.env) fp) w elt te)
    (s0 : Shared) (hc : X.calm = true := by rfl) (hs : ∀ x, foldedSetIterable iter X.env x = pure x := by intro _; rfl) (hs1 : ∀ env x, foldedSetIterable iter1 env x = pure x := by intro _ _; rfl) :
    PFd X w (.ListComp elt [⟨tg, iter, ifs, 0⟩, ⟨tg1, iter1, ifs1, 0⟩] scope pos) (dLcN wd gd tt wd1 gd1 tt1 te (own.map (·.2)) vs1) := by
  have mt := (ht s0 (fun _ => none) 0 [] []).mo
  have mt1 := (ht1 s0 (fun _ => none) 0 [] []).mo
  have mw1 := (hi1 s0 (fun _ => none) 0 [] []).mo
  have me := (he s0 (fun _ => none) 0 [] []).mo
  refine ⟨weE (pe_lc2 (tt := liT X.K w tt) (tt1 := liT X.K w tt1) (wi1 := liI X.K w wd1) (te := liE X.K w te) hc hN hi.pi ok hv hg (fun s H C cl fp => (ht s H C cl fp).pt) (fun s H C cl fp => (hi1 s H C cl fp).pi) hg1 (fun s H C cl fp => (ht1 s H C cl fp).pt) (fun s H C cl fp => (he s H C cl fp).pe) hs hs1) ?_, fun r Q Q' q h => hi.mo _ _ _ (fun ds => lcN_mo G.mo mt mw1 G1.mo mt1 me q ds []) h⟩
  rintro σ H Q ⟨W, own, r, S, h⟩
  exact lcF2_in G gmo sub G1 gmo1 sub1 mt mt1 me hi.mo mw1 S h
/-- a new list as a datum -/
theorem PFd.ped {t : TDA} (h : PFd X w e t) : PEd X w e (fun r Q => t r fun ds => Q (.lst ds)) := by
  refine ⟨weE h.pe ?_, fun r Q Q' q z => h.mo _ _ _ (fun ds z => q _ z) z⟩
  rintro σ H Q ⟨W, own, r, S, z⟩
  refine ⟨W, own, r, S, h.mo _ _ _ (fun ds q p xs H1 e1 k1 np dv => ?_) z⟩
  obtain ⟨n1, n2, n3, n4⟩ := k1.new (o := .lst xs) np
  exact q _ _ (e1.trans n1) n2 (.lst n4 (DvAll.mono n3 _ _ dv))
/-- with a look at one's own -/
theorem pfd_open {t : TDA} (h : ∀ w, PFd X w e t) : PFd X w e (fun r Q => t (openE r) fun ds => noLs ds = true ∧ Q ds) := by
  refine ⟨⟨fun pins s σ H Q I q => ?_⟩, fun r Q Q' q z => (h w).mo _ _ _ (fun d p => ⟨p.1, q d p.2⟩) z⟩
  obtain ⟨W, own, r, S, z⟩ := q
  refine (h ⟨H, w.g, shut W own r⟩).pe.run pins s σ H Q I ⟨shut W own r, fun _ _ => False, openE r, S.opened, (h w).mo _ _ _ (fun ds q p xs H1 e1 k1 np dv => q.2 p xs H1 e1 (S.shutOk e1 k1) np (DvAll.sees (S.seesBack e1) _ _ q.1 dv)) z⟩
end
end Pd
/-! Defs that return a new list. -/
namespace Pd
open PySem PySem.Spec PyProof.Rows L2
/-! ### the promise of a new list -/
abbrev DSpF := List Da → (List Da → Prop) → Prop
def MoPF (p : DSpF) : Prop := ∀ ds Q Q', (∀ d, Q d → Q' d) → p ds Q → p ds Q'
def liF (K : PySem.W.Frag) (p : DSpF) : Sp := fun vs H Q _ => ∃ g W ds, OkW K g W H ∧ DvAll K g (hid W H) vs ds ∧ p ds (NewL K g W H Q)
structure CalldF (P : Program) (wd : World) (K : PySem.W.Frag) (mg : Str → Option Value) (base : Heap) (k : Nat) (x : Str) (ps : List Str) (p : DSpF) : Prop where
  ex : ∃ f fd, FnG P wd K mg base CX0 k f fd ps (liF K p) ∧ mg x = some (.ref f) ∧ PySem.W.keepIn K (.ref f) = true ∧ Binds K fd ps []
  mp : MoPF p
section
variable {P : Program} {wd : World} {K : PySem.W.Frag} {mg : Str → Option Value} {base : Heap}
theorem CalldF.up {j k : Nat} {x : Str} {ps : List Str} {p : DSpF} (c : CalldF P wd K mg base j x ps p) (h : j ≤ k) : CalldF P wd K mg base k x ps p := by
  obtain ⟨⟨f, fd, F, a, b, d⟩, mp⟩ := c
  exact ⟨⟨f, fd, F.up h, a, b, d⟩, mp⟩
theorem NewL.aft {g : Option Addr} {W : Addr → Bool} {H : Hp} {Q : VK} {ds : List Da} (h : Aft K g W H Q (.lst ds)) : NewL K g W H Q ds := fun p xs H1 e1 k1 np dv => by
  obtain ⟨n1, n2, n3, n4⟩ := k1.new (o := .lst xs) np
  exact h _ _ (e1.trans n1) n2 (.lst n4 (DvAll.mono n3 _ _ dv))
theorem NewL.then {g : Option Addr} {W : Addr → Bool} {H H' : Hp} {Q : VK} {ds : List Da} (h : NewL K g W H Q ds) (e : Ext g H H') : NewL K g W H' Q ds := fun p xs H1 e1 => h p xs H1 (e.trans e1)
/-- as a datum -/
theorem CalldF.dat {k : Nat} {x : Str} {ps : List Str} {p : DSpF} (c : CalldF P wd K mg base k x ps p) : Calld P wd K mg base k x ps (fun ds Q => p ds fun xs => Q (.lst xs)) := by
  obtain ⟨⟨f, fd, F, a, b, d⟩, mp⟩ := c
  refine ⟨⟨f, fd, ⟨fun vs H Q E ⟨g, W, ds, k1, dv, h⟩ => F.many vs H Q E ⟨g, W, ds, k1, dv, mp _ _ _ (fun _ => NewL.aft) h⟩, fun A outer s0 H args us vs Q E room hG z bd rel ⟨g, W, ds, k1, dv, h⟩ => F.goes A outer s0 H args us vs Q E room hG z bd rel ⟨g, W, ds, k1, dv, mp _ _ _ (fun _ => NewL.aft) h⟩⟩, a, b, d⟩, fun ds Q Q' q h => mp _ _ _ (fun xs => q _) h⟩
end
section
variable {X : Cx} {w : Wd}
def dCallF (p : DSpF) (t : TDA) : TDA := fun r Q => t r fun ds => p ds Q
theorem pfd_f {x : Str} {p pos : Pos} {k : Nat} {ps : List Str} {sp : DSpF} {t : TDA} {e : Expr} {es : List Expr} (c : CalldF X.prog X.w X.K X.mg X.base k x ps sp) (room : Room k X.A) (hG : X.A.guards = some []) (args : PAd X w (e :: es) t) (gl : Gl X x := by rfl) (nd : (x == ("__debug__" : Str)) = false := by decide)
    (st : starEach (e :: es) X.env = (false, eval e X.env) :: starEach es X.env := by rfl) (bk : (backTo pos (starEach es X.env)).any (·.1) = false := by rfl) : PFd X w (.Call (.Name x p) (e :: es) [] pos) (dCallF sp t) := by
  obtain ⟨⟨f, fd, F, a, b, d⟩, mp⟩ := c
  refine ⟨weE (pe_callG (E := E0) F room hG gl a b d .nil pass0 args.pa nd st bk) ?_, fun r Q Q' q h => args.mo _ _ _ (fun ds z => mp _ _ _ q z) h⟩
  rintro σ H Q ⟨W, own, r, S, h⟩
  refine goA args S h fun xs vs H1 e1 k1 d1 p => ?_
  rw [List.append_nil]
  exact ⟨w.g, W, xs, k1, d1, mp _ _ _ (fun d q => NewL.then q e1) p⟩
end

/-! ### the body of such a def -/
structure EnF extends EnD where
  rf : List Da → Prop
abbrev TDF := EnF → En → Prop
/-- what is hidden at the start stands somewhere -/
def WOk (w : Wd) : Prop := ∀ a, w.W0 a = true → ∃ o, w.H0 a = some o
def endF (K : PySem.W.Frag) (w : Wd) (W : Addr → Bool) (H : Hp) (E : Ends) : EnF := { endD K w W H E with rf := NewL K w.g w.W0 w.H0 E.rt }
structure LeF (E E' : EnF) : Prop where
  le : Le E.toEnD E'.toEnD
  rf : ∀ d, E.rf d → E'.rf d
structure PSsF (X : Cx) (w : Wd) (st : List Stmt) (t : TDF) : Prop where
  ps : PSs X st (fun E σ H => ∃ W own r, Stt X.K w W own r σ H ∧ t (endF X.K w W H E) r)
  mo : ∀ E E' r, LeF E E' → t E r → t E' r
theorem endF_grow {K : PySem.W.Frag} {w : Wd} {W W1 : Addr → Bool} {H H1 : Hp} {E : Ends} (g : Grow w.g W H W1 H1) : LeF (endF K w W H E) (endF K w W1 H1 E) := ⟨endD_grow g, fun _ h => h⟩
section
variable {X : Cx} {w : Wd} {e : Expr} {es : List Expr} {st : Stmt} {sts rest : List Stmt} {pos : Pos} {t : TDS} {tt : TDT} {u v : TDF}
def dSeqF (t : TDS) (u : TDF) : TDF := fun E r => t { E.toEnD with nx := u E } r
theorem psf_cons (h1 : PSd X w st t) (h2 : PSsF X w rest u) : PSsF X w (st :: rest) (dSeqF t u) := by
  refine ⟨weSs (pss_cons h1.ps h2.ps) ?_, fun E E' r l h => h1.mo { E.toEnD with nx := u E } { E'.toEnD with nx := u E' } r ⟨fun r' => h2.mo E E' r' l, l.le.rt, l.le.bk, l.le.ct⟩ h⟩
  rintro D σ H ⟨W, own, r, S, h⟩
  refine ⟨W, own, r, S, h1.mo { endD X.K w W H D with nx := u (endF X.K w W H D) } (endD X.K w W H { D with nx := _ }) r ⟨fun r' z W' o' σ' H' g' S' => ?_, fun _ z => z, fun _ z => z, fun _ z => z⟩ h⟩
  exact ⟨W', o', r', S', h2.mo _ _ _ (endF_grow g') z⟩
theorem psf_retF {t : TDA} (he : PFd X w e t) : PSsF X w [.Return (some e) pos] (fun E r => t r E.rf) := by
  refine ⟨weSs (pss_one (ps_ret he.pe)) ?_, fun E E' r l h => he.mo _ _ _ l.rf h⟩
  rintro D σ H ⟨W, own, r, S, h⟩
  refine ⟨W, own, r, S, he.mo _ _ _ (fun ds z p xs H1 e1 k1 np dv => ?_) h⟩
  refine z p xs H1 (S.base.trans e1) ⟨fun c hc => ?_, S.g0, fun c hc => k1.al c (S.w0 c hc)⟩ np (DvAll.mono (hid_le S.w0) _ _ dv)
  obtain ⟨x, y, n, c', cs, h1, h2⟩ := k1.bag c hc
  exact ⟨x, y, n, c', cs, h1, hid_le S.w0 _ _ h2⟩
theorem psf_retOwn (i : Nat) {x : Str} {p : Pos} (hw : WOk w) (hN : X.N[i]? = some x := by rfl) (hv : Vis X.env.scope x := by first | exact Or.inl rfl | exact Or.inr (Or.inl rfl) | exact Or.inr (Or.inr rfl)) (hd : (x == ("__debug__" : Str)) = false := by decide) (hcd : (x == ("__classdict__" : Str)) = false := by decide) :
    PSsF X w [.Return (some (.Name x p)) pos] (fun E r => ∃ ds, r[i]? = some (.own ds) ∧ E.rf ds) := by
  refine ⟨weSs (pss_one (ps_ret (pv i hN hv hd hcd))) ?_, fun E E' r l ⟨ds, h1, h2⟩ => ⟨ds, h1, l.rf _ h2⟩⟩
  rintro D σ H ⟨W, own, r, S, ds, hr, h⟩
  obtain ⟨v, hv, a, xs, o1, rfl, o3, o4⟩ := S.sl i _ hr (fun z => by cases z)
  obtain ⟨oW, oH, og⟩ := S.oW i a o1.1
  have w0a : w.W0 a = false := by
    cases q : w.W0 a with
    | false => rfl
    | true => obtain ⟨o, z⟩ := hw a q; rw [oH] at z; cases z
  have eq : H = upd (cutAt a H) a (.lst xs) := by
    funext b
    by_cases z : b = a
    · rw [z, o3, upd_same]
    · rw [upd_ne z, cutAt_ne z]
  have sm : Sm (hid W H) (hid w.W0 (cutAt a H)) := fun b o q => by
    obtain ⟨q1, q2⟩ := hid_some q
    have ne : b ≠ a := fun z => by rw [z, oW] at q1; cases q1
    rw [hid_no, cutAt_ne ne]
    · exact q2
    · cases y : w.W0 b with
      | false => rfl
      | true => rw [S.w0 b y] at q1; cases q1
  refine ⟨.ref a, hv, ?_⟩
  have z := h a xs (cutAt a H) ⟨fun b o n hb => ?_, fun b ys hb hx => ?_⟩ ⟨fun c hc => ?_, S.g0, fun c hc => ?_⟩ cutAt_same (DvAll.mono sm _ _ o4)
  · rw [← eq] at z
    exact z
  · rw [cutAt_ne (ne_of_none hb oH)]
    exact S.base b o n hb
  · have ne : b ≠ a := fun z => og (z ▸ hb)
    rw [cutAt_ne ne]
    exact S.base.last b ys hb hx
  · obtain ⟨x, y, n, c', cs, h1, h2⟩ := S.ok.bag c hc
    have ne : c ≠ a := fun z => og (z ▸ hc)
    exact ⟨x, y, n, c', cs, by rw [cutAt_ne ne]; exact h1, sm _ _ h2⟩
  · have ne : c ≠ a := fun z => by rw [z, w0a] at hc; cases hc
    rw [cutAt_ne ne]
    exact S.ok.al c (S.w0 c hc)
def dIfF (c : TDT) (t u : TDF) : TDF := fun E r => c r fun b => if b = true then t E r else u E r
theorem psf_if {c : Expr} {p q : List Stmt} (hc : PTd X w c tt) (ha : PSsF X w p u) (hb : PSsF X w q v) : PSsF X w [.If c p q pos] (dIfF tt u v) := by
  refine ⟨weSs (pss_one (ps_if hc.pt ha.ps hb.ps)) ?_, fun E E' r l h => hc.mo _ _ _ (fun b => ite_mo (ha.mo E E' r l) (hb.mo E E' r l)) h⟩
  rintro D σ H ⟨W, own, r, S, h⟩
  refine ⟨W, own, r, S, hc.mo _ _ _ (fun b z H1 e1 k1 => ?_) h⟩
  have l : LeF (endF X.K w W H D) (endF X.K w W H1 D) := endF_grow (.of k1 e1)
  exact ite_mo (fun z => ⟨W, own, r, S.ext e1 k1, ha.mo _ _ _ l z⟩) (fun z => ⟨W, own, r, S.ext e1 k1, hb.mo _ _ _ l z⟩) z
end
theorem defF {P : Program} {wd : World} {K : PySem.W.Frag} {mg : Str → Option Value} {base : Heap} {x : Str} {st : Stmt} {N ps : List Str} {k : Nat} {p : DSpF} (At : DefAt K mg x st ps)
    (S : FnScope N ps (defScope st)) (len : ∀ ds Q, p ds Q → ds.length = ps.length) (mp : MoPF p)
    (inside : ∀ (f : Addr) (cdv : Value) (A : Around) (outer : List Env) (s0 : Shared) (H : Hp) (E : XK) (w : Wd) (ds : List Da) (Q : List Da → Prop), Room k (A.deeper (envOfC x (defScope st) s0.heap.objs.size f cdv)) → A.guards = some [] → WOk w → p ds Q →
      ∃ t, PSsF (cxOf CX0 P wd K mg base N x (defScope st) f cdv A outer s0 H E).nox w (defBody st) t ∧ t { nx := fun _ => False, rt := fun _ => False, bk := fun _ => False, ct := fun _ => False, rf := Q } (startD N ds)) :
    CalldF P wd K mg base (k + 1) x ps p := by
  obtain ⟨f, fd, F, a, b⟩ := At.ex
  refine ⟨⟨f, fd, FunG.ok F S ?_ ?_, a, F.kp, b⟩, mp⟩
  · rintro vs H Q E ⟨g, W, ds, k1, dv, h⟩
    rw [dv.len]
    exact len _ _ h
  · rintro cdv A outer s0 H vs Q E room hG ⟨g, W, ds, k1, dv, h⟩
    obtain ⟨t, ht, hq⟩ := inside f cdv A outer s0 H E ⟨H, g, W⟩ ds _ room hG (fun a ha => k1.al a ha) h
    refine ⟨_, ht.ps, W, fun _ _ => False, startD N ds, start_stt k1 dv, ht.mo { nx := fun _ => False, rt := fun _ => False, bk := fun _ => False, ct := fun _ => False, rf := NewL K g W H Q } _ _ ⟨⟨fun _ (q : False) => q.elim, fun _ (q : False) => q.elim, fun _ (q : False) => q.elim, fun _ (q : False) => q.elim⟩, fun ds q => q⟩ hq⟩

/-! ### two new lists at once -/
section
variable {X : Cx} {w : Wd} {a b : Expr} {pos : Pos}
def dParF (i j : Nat) (ta tb : TDA) : TDS := fun E r => ta r fun x => tb r fun y => E.nx ((r.set i (.own x)).set j (.own y))
theorem psd_parF {i j : Nat} {x y : Str} {px py pt : Pos} {kt k2 pt2} {ta tb : TDA} (ha : PFd X w a ta) (hb : PFd X w b tb) (hN : X.N.Nodup) (hc : X.calm = true := by rfl) (hi : X.N[i]? = some x := by rfl) (hj : X.N[j]? = some y := by rfl) (hij : i ≠ j := by decide)
    (hx : X.env.scope.names.lookup x = some .local := by rfl) (hy : X.env.scope.names.lookup y = some .local := by rfl) (hs1 : starEach (a :: [b]) X.env = (false, eval a X.env) :: starEach [b] X.env := by rfl) (hs2 : starEach (b :: []) X.env = (false, eval b X.env) :: starEach [] X.env := by rfl)
    (hw : swappedStores [.Tuple [.Name x px, .Name y py] kt pt] (.Tuple [a, b] k2 pt2) X.env = pure (some [x, y]) := by rfl)
    (hs : swapsWithSole [.Tuple [.Name x px, .Name y py] kt pt] (.Tuple [a, b] k2 pt2) pos.line X.env = pure false := by rfl) :
    PSd X w (.Assign [.Tuple [.Name x px, .Name y py] kt pt] (.Tuple [a, b] k2 pt2) pos) (dParF i j ta tb) := by
  refine ⟨weS (ps_par hc hN hi hj hij hx hy (pa_cons ha.pe (pa_cons hb.pe pa_nil hs2) hs1) hw hs) ?_, fun E E' r l h => ha.mo _ _ _ (fun d => hb.mo _ _ _ (fun d => l.nx _)) h⟩
  rintro D σ H ⟨W, own, r, S, h⟩
  refine ⟨W, own, r, S, ha.mo _ _ _ (fun ds z p xs H1 e1 k1 np dv => ?_) h⟩
  have S1 := S.ext e1 k1
  obtain ⟨S2, gr2', sm2, ge, h0, oN⟩ := S1.hideO (o := .lst xs) np
  have gr2 : Grow w.g W H (hideD W p) (upd H1 p (.lst xs)) := (Grow.of k1 e1).trans gr2'
  refine ⟨hideD W p, own, r, S2, hb.mo _ _ _ (fun es y p2 ys H3 e3 k3 np2 dv2 => ?_) z⟩
  have S3 := S2.ext e3 k3
  have hp3 : H3 p = some (.lst xs) := e3 p _ ge upd_same
  have S4 := S3.takeOwn i (ds := ds) hideD_at h0 ge oN hp3 (DvAll.mono (fun a o q => (e3.hid S2.ok.gW) a o (sm2 a o q)) _ _ dv)
  obtain ⟨⟨own5, S5⟩, gr5⟩ := S4.newOwn j np2 dv2
  exact ⟨.ref p, .ref p2, rfl, y _ own5 _ _ ((gr2.trans (Grow.of k3 e3)).trans gr5) S5⟩
end
end Pd
/-! Own lists by insert; dicts: their items, their keys sorted, made of pairs. -/
namespace Pd
open PySem PySem.Spec PyProof.Rows L2 LiI
section
variable {X : Cx} {w : Wd} {e f : Expr} {es : List Expr} {te ta tb : TDE} {t : TDA} {pos p : Pos}
/-! ### xs.insert(i, e) -/
def dIns (i : Nat) (ta tb : TDE) : TDS := fun E r => ∃ ds, r[i]? = some (.own ds) ∧ ta r fun x => tb r fun y => ∃ n : Nat, x = .int (n : Nat) ∧ n ≤ 16777216 ∧ ds.length < sizeLine ∧ E.nx (r.set i (.own (ds.take n ++ [y] ++ ds.drop n)))
theorem psd_ins {i : Nat} {x : Str} {p apos cpos pos : Pos} (ha : PEd X w e ta) (hb : PEd X w f tb) (hN : X.N[i]? = some x := by rfl) (hv : Vis X.env.scope x := by first | exact Or.inl rfl | exact Or.inr (Or.inl rfl) | exact Or.inr (Or.inr rfl)) (hd : (x == ("__debug__" : Str)) = false := by decide) (hcd : (x == ("__classdict__" : Str)) = false := by decide)
    (hbase : attributeBase (.Name x p) "insert" X.env (eval (.Name x p) X.env) = eval (.Name x p) X.env := by rfl)
    (hfew : ((backTo cpos (starEach [e, f] X.env)).all (fun x => !x.1) && (backToKw cpos (keywordEach [] X.env)).all (fun x => x.1.isSome) && decide (([e, f] : List Expr).length + ([] : List Keyword).length + (if ([] : List Keyword).isEmpty then 0 else 1) < 30)) = true := by rfl)
    (hline : (apos.endLine == cpos.line) = true := by rfl) (hst : starEach [e, f] X.env = (false, eval e X.env) :: starEach [f] X.env := by rfl) (hst2 : starEach [f] X.env = (false, eval f X.env) :: starEach [] X.env := by rfl) (hpl : (backTo cpos (starEach [f] X.env)).any (·.1) = false := by rfl)
    (hs : swapsWith (.Call (.Attribute (.Name x p) "insert" apos) [e, f] [] cpos) none pos.line X.env = pure false := by rfl) :
    PSd X w (.Expr (.Call (.Attribute (.Name x p) "insert" apos) [e, f] [] cpos) pos) (dIns i ta tb) := by
  refine ⟨weS (ps_expr (pe_bm PySem.F.plainAttrs_list PySem.F.slot_list_insert PySem.F.type_list_insert mt_insert (pv i hN hv hd hcd) (pa_cons ha.pe (pa_cons hb.pe pa_nil hst2) hst) hbase hfew hline hst hpl) hs) ?_, fun E E' r l ⟨ds, h0, h⟩ => ⟨ds, h0, ha.mo _ _ _ (fun x => hb.mo _ _ _ fun y ⟨n, a, b, d, q⟩ => ⟨n, a, b, d, l.nx _ q⟩) h⟩⟩
  rintro D σ H ⟨W, own, r, S, ds, hr, h⟩
  obtain ⟨v, hv, a, xs, o1, rfl, o3, o4⟩ := S.sl i _ hr (fun z => by cases z)
  refine ⟨.ref a, hv, .inl ⟨rfl, _, SqL.of o3⟩, ?_⟩
  refine go1 ha S h fun x v H1 e1 k1 d1 z => ?_
  have S1 := S.ext e1 k1
  refine go1 hb S1 z fun y u H2 e2 k2 d2 z => ?_
  obtain ⟨n, rfl, hn, hl, q⟩ := z
  cases d1
  have S2 := S1.ext e2 k2
  obtain ⟨v', hv', a', xs', q1, q2, q3, q4⟩ := S2.sl i _ hr (fun z => by cases z)
  cases o1.2 _ q1.1
  obtain ⟨S', gr⟩ := S2.setOwn (ys := xs'.take n ++ [u] ++ xs'.drop n) (es := ds.take n ++ [y] ++ ds.drop n) o1 hr (((q4.tk n).app (.cons d2 .nil)).app (q4.dr n))
  refine ⟨a, xs', ((n : Nat) : Int), u, rfl, rfl, q3, by rw [q4.len]; exact hl, by omega, by omega, ?_⟩
  rw [Int.toNat_natCast]
  exact q W own σ _ ((Grow.of k2 (e1.trans e2)).trans gr) S'

/-! ### list(d.items()) -/
theorem kD_dv {K : PySem.W.Frag} {g : Option Addr} {H : Hp} (k : Key) : Dv K g H (kV k) (kD k) := by
  cases k with
  | inl i => exact .int i
  | inr x => exact .str x
def dItems (te : TDE) : TDE := fun r Q => te r fun d => ∃ kvs, d = .dct kvs ∧ Q (.lst (kvs.map fun kv => .tpw [kD kv.1, kv.2]))
theorem items_dv {K : PySem.W.Frag} {g : Option Addr} {W : Addr → Bool} {H H' : Hp} (sm : Sm (hid W H) (hid W H')) : ∀ {us : List (Key × V)} {kvs : List (Key × Da)} {ts : List Addr}, KvAll K g (hid W H) us kvs → Paired (fun (t : Addr) (q : Key × V) => H' t = some (.tup [kV q.1, q.2])) ts us → (∀ t ∈ ts, W t = false) →
    DvAll K g (hid W H') (ts.map V.ref) (kvs.map fun kv => .tpw [kD kv.1, kv.2])
  | _, _, _, .nil, .nil, _ => .nil
  | _, _, t :: ts, .cons a b, .cons c d, h => by
    have ht := h t List.mem_cons_self
    refine .cons (.tpw (.inl (.inl (by rw [hid_no ht]; exact c))) (.cons (kD_dv _) (.cons (Dv.mono sm _ _ a) .nil))) (items_dv sm b d fun u hu => h u (List.mem_cons_of_mem _ hu))
theorem ped_listItems {p apos cpos pos : Pos} (he : PEd X w e te) (hm : X.mg "list" = none) (hc : X.calm = true := by rfl) (hg : Gl X "list" := by rfl) (hbase : attributeBase e "items" X.env (eval e X.env) = eval e X.env := by rfl) (hline : (apos.endLine == cpos.line) = true := by rfl)
    (hs : starEach [.Call (.Attribute e "items" apos) [] [] cpos] X.env = (false, eval (.Call (.Attribute e "items" apos) [] [] cpos) X.env) :: starEach [] X.env := by rfl) :
    PEd X w (.Call (.Name "list" p) [.Call (.Attribute e "items" apos) [] [] cpos] [] pos) (dItems te) := by
  refine ⟨weE (pe_listItems hc he.pe hg hm (by decide +kernel) hbase hline hs) ?_, fun r Q Q' q h => he.mo _ _ _ (fun d ⟨kvs, a, z⟩ => ⟨kvs, a, q _ z⟩) h⟩
  rintro σ H Q ⟨W, own, r, S, h⟩
  refine go1 he S h fun d v H1 e1 k1 d1 p => ?_
  obtain ⟨kvs, rfl, z⟩ := p
  cases d1 with
  | @dct a us _ h1 h2 =>
    refine ⟨a, us, rfl, (hid_some h1).2, fun H' p ts kp np nt pt hp pr => ?_⟩
    have nW : ∀ c, H1 c = none → W c = false := fun c hc => by
      cases y : W c with
      | false => rfl
      | true => obtain ⟨o, q⟩ := k1.al c y; rw [hc] at q; cases q
    have sm : Sm (hid W H1) (hid W H') := Ext.hid k1.gW (Ext.of kp)
    exact z _ H' (e1.trans (Ext.of kp)) (k1.same kp) (.lst (by rw [hid_no (nW p np)]; exact hp) (items_dv sm h2 pr fun t ht => nW t (nt t ht)))
/-! ### dict(a list of pairs of any making) -/
def dictD2 : DB := fun ds Q => ∃ (kvs : List (Key × Da)) (ys : List Da), ds = [.lst ys] ∧ Paired (fun y kv => itemsOf y = some [kD kv.1, kv.2]) ys kvs ∧ Q (.dct (mergeD [] kvs))
theorem pairs_in2 {K : PySem.W.Frag} {g : Option Addr} {Hh H : Hp} (sm : Sm Hh H) : ∀ {ys : List Da} {kvs : List (Key × Da)} {xs : List V}, Paired (fun y kv => itemsOf y = some [kD kv.1, kv.2]) ys kvs → DvAll K g Hh xs ys → ∃ (ps : List Addr) (us : List (Key × V)), xs = ps.map V.ref ∧ Paired (fun p kv => SqT K H p [kV kv.1, kv.2]) ps us ∧ KvAll K g Hh us kvs
  | _, _, _, .nil, h => by cases h; exact ⟨[], [], rfl, .nil, .nil⟩
  | y :: ys, kv :: kvs, _, .cons c d, h => by
    cases h with
    | cons a t =>
      obtain ⟨ps, us, rfl, h2, h3⟩ := pairs_in2 sm d t
      unfold itemsOf at c
      split at c
      · cases c
        cases a with
        | @tup c ys _ b1 b2 =>
          obtain ⟨v1, v2, rfl, c1, c2⟩ := b2.two
          rw [kD_v c1] at b1
          exact ⟨c :: ps, (kv.1, v2) :: us, rfl, .cons (sqt_mono sm b1.sq) h2, .cons c2 h3⟩
      · cases c
        cases a with
        | @tpw c ys _ b1 b2 =>
          obtain ⟨v1, v2, rfl, c1, c2⟩ := b2.two
          rw [kD_v c1] at b1
          exact ⟨c :: ps, (kv.1, v2) :: us, rfl, .cons (sqt_mono sm b1) h2, .cons c2 h3⟩
      · cases c
theorem ped_dict2 {t : TDA} {p : Pos} (hm : X.mg "dict" = none) (args : PAd X w (e :: es) t) (hc : X.calm = true := by rfl) (hg : Gl X "dict" := by rfl) (he : starEach (e :: es) X.env = (false, eval e X.env) :: starEach es X.env := by rfl) (hpl : (backTo pos (starEach es X.env)).any (·.1) = false := by rfl) :
    PEd X w (.Call (.Name "dict" p) (e :: es) [] pos) (dCall dictD2 t) := by
  refine ped_callTy (call_dictP hc) (fun ds Q Q' q ⟨x, y, a, b, h⟩ => ⟨x, y, a, b, q _ h⟩) ?_ hm (by decide +kernel) args hg (by decide) (by decide) he hpl
  rintro g W H vs ds Q k dv ⟨kvs, ys, rfl, pr, h⟩
  obtain ⟨v, rfl, dx⟩ := dv.one
  cases dx with
  | lst a1 a2 =>
    obtain ⟨ps, us, rfl, h2, h3⟩ := pairs_in2 (H := H) hid_sub pr a2
    refine ⟨_, ps, us, rfl, SqL.of (hid_some a1).2, h2, fun q nq => ?_⟩
    obtain ⟨e1, k1, s1, q1⟩ := k.new (o := .dK (mergeK [] us)) nq
    exact h _ _ e1 k1 (.dct q1 (KvAll.mono s1 _ _ (KvAll.merge .nil h3)))
/-! ### sorted(d) -/
theorem KvAll.keys {K : PySem.W.Frag} {g : Option Addr} {H : Hp} : ∀ {us : List (Key × V)} {kvs : List (Key × Da)}, KvAll K g H us kvs → us.map (·.1) = kvs.map (·.1)
  | _, _, .nil => rfl
  | _, _, .cons _ t => by rw [List.map_cons, List.map_cons, t.keys]
def srtDD : DB := fun ds Q => ∃ (kvs : List (Key × Da)) (ks : List Str), ds = [.dct kvs] ∧ kvs.map (·.1) = ks.map Sum.inr ∧ ks.length < 64 ∧ ∀ ys : List Str, ys.Perm ks → sortedS ys = true → Q (.lst (ys.map .str))
def srtDI : DB := fun ds Q => ∃ (kvs : List (Key × Da)) (ks : List Int), ds = [.dct kvs] ∧ kvs.map (·.1) = ks.map Sum.inl ∧ ks.length < 64 ∧ ∀ ys : List Int, ys.Perm ks → ys.Pairwise (· ≤ ·) → Q (.lst (ys.map .int))
theorem pfd_callB {x : Str} {p pos : Pos} {id : String} {R : List V → Hp → VK → Prop} {D : List Da → (List Da → Prop) → Prop} {t : TDA} {e : Expr} {es : List Expr} (hc : CallR X (.builtin id) R) (m : ∀ ds Q Q', (∀ d, Q d → Q' d) → D ds Q → D ds Q')
    (br : ∀ (g : Option Addr) (W : Addr → Bool) (H : Hp) (vs : List V) (ds : List Da) (Q : VK), OkW X.K g W H → DvAll X.K g (hid W H) vs ds → D ds (NewL X.K g W H Q) → R vs H Q) (hm : X.mg x = none) (hv : bootBuiltins x = some (.builtin id)) (args : PAd X w (e :: es) t)
    (hg : Gl X x := by rfl) (hn : x ≠ "__name__" := by decide) (hdb : (x == ("__debug__" : Str)) = false := by decide) (he : starEach (e :: es) X.env = (false, eval e X.env) :: starEach es X.env := by rfl) (hpl : (backTo pos (starEach es X.env)).any (·.1) = false := by rfl) :
    PFd X w (.Call (.Name x p) (e :: es) [] pos) (fun r Q => t r fun ds => D ds Q) := by
  refine ⟨weE (pe_callB hc hg hm hv args.pa hn hdb he hpl) ?_, fun r Q Q' q h => args.mo _ _ _ (fun ds => m _ _ _ q) h⟩
  rintro σ H Q ⟨W, own, r, S, h⟩
  refine goA args S h fun xs vs H1 e1 k1 d1 p => ?_
  exact br w.g W H1 vs xs Q k1 d1 (m _ _ _ (fun d q => NewL.then q e1) p)
theorem pfd_sortedDict {p : Pos} (hm : X.mg "sorted" = none) (args : PAd X w (e :: es) t) (hc : X.calm = true := by rfl) (hg : Gl X "sorted" := by rfl) (he : starEach (e :: es) X.env = (false, eval e X.env) :: starEach es X.env := by rfl) (hpl : (backTo pos (starEach es X.env)).any (·.1) = false := by rfl) :
    PFd X w (.Call (.Name "sorted" p) (e :: es) [] pos) (fun r Q => t r fun ds => ∃ (kvs : List (Key × Da)) (ks : List Str), ds = [.dct kvs] ∧ kvs.map (·.1) = ks.map Sum.inr ∧ ks.length < 64 ∧ ∀ ys : List Str, ys.Perm ks → sortedS ys = true → Q (ys.map .str)) := by
  refine pfd_callB (D := fun ds Q => ∃ (kvs : List (Key × Da)) (ks : List Str), ds = [.dct kvs] ∧ kvs.map (·.1) = ks.map Sum.inr ∧ ks.length < 64 ∧ ∀ ys : List Str, ys.Perm ks → sortedS ys = true → Q (ys.map .str)) (call_sortedD hc) (fun ds Q Q' q ⟨kvs, ks, a, b, c, h⟩ => ⟨kvs, ks, a, b, c, fun ys h1 h2 => q _ (h ys h1 h2)⟩) ?_ hm (by decide +kernel) args hg (by decide) (by decide) he hpl
  rintro g W H vs ds Q k dv ⟨kvs, ks, rfl, hk, hl, h⟩
  obtain ⟨v, rfl, dx⟩ := dv.one
  cases dx with
  | dct a1 a2 =>
    exact ⟨_, _, ks, rfl, Rd.of (hid_some a1).2, by rw [a2.keys]; exact hk, hl, fun ys p pm so np => h ys pm so p _ H Ext.refl k np (DvAll.mk_strs ys)⟩
theorem pfd_sortedDictI {p : Pos} (hm : X.mg "sorted" = none) (args : PAd X w (e :: es) t) (hc : X.calm = true := by rfl) (hg : Gl X "sorted" := by rfl) (he : starEach (e :: es) X.env = (false, eval e X.env) :: starEach es X.env := by rfl) (hpl : (backTo pos (starEach es X.env)).any (·.1) = false := by rfl) :
    PFd X w (.Call (.Name "sorted" p) (e :: es) [] pos) (fun r Q => t r fun ds => ∃ (kvs : List (Key × Da)) (ks : List Int), ds = [.dct kvs] ∧ kvs.map (·.1) = ks.map Sum.inl ∧ ks.length < 64 ∧ ∀ ys : List Int, ys.Perm ks → ys.Pairwise (· ≤ ·) → Q (ys.map .int)) := by
  refine pfd_callB (D := fun ds Q => ∃ (kvs : List (Key × Da)) (ks : List Int), ds = [.dct kvs] ∧ kvs.map (·.1) = ks.map Sum.inl ∧ ks.length < 64 ∧ ∀ ys : List Int, ys.Perm ks → ys.Pairwise (· ≤ ·) → Q (ys.map .int)) (call_sortedDI hc) (fun ds Q Q' q ⟨kvs, ks, a, b, c, h⟩ => ⟨kvs, ks, a, b, c, fun ys h1 h2 => q _ (h ys h1 h2)⟩) ?_ hm (by decide +kernel) args hg (by decide) (by decide) he hpl
  rintro g W H vs ds Q k dv ⟨kvs, ks, rfl, hk, hl, h⟩
  obtain ⟨v, rfl, dx⟩ := dv.one
  cases dx with
  | dct a1 a2 =>
    exact ⟨_, _, ks, rfl, Rd.of (hid_some a1).2, by rw [a2.keys]; exact hk, hl, fun ys p pm so np => h ys pm so p _ H Ext.refl k np (DvAll.mk_ints ys)⟩
end
end Pd
/-! Lists of lists and dicts of one's own: made, and changed within. -/
namespace Pd
open PySem PySem.Spec PyProof.Rows L2
section
variable {K : PySem.W.Frag} {w : Wd} {W : Addr → Bool} {own : Ow} {r : En} {σ : L2.St} {H H' : Hp}
/-- a slot is no longer known -/
theorem Stt.drop (S : Stt K w W own r σ H) (i : Nat) : Stt K w W own (r.set i .no) σ H := by
  refine ⟨S.ok, S.base, S.w0, S.g0, S.oW, S.inj, by rw [List.length_set]; exact S.len, fun j u h n => ?_⟩
  by_cases hj : j = i
  · subst hj
    have hl : j < r.length := by
      have := (List.getElem?_eq_some_iff.mp h).1
      rwa [List.length_set] at this
    rw [List.getElem?_set_self hl] at h
    cases h
    exact absurd rfl n
  · rw [List.getElem?_set_ne (Ne.symm hj)] at h
    exact S.sl j u h n
/-- a slot's knowledge is put otherwise -/
theorem Stt.tell (S : Stt K w W own r σ H) {i : Nat} {s : Sl} (h : s ≠ .no → ∃ v, σ[i]? = some (some v) ∧ SlD K w.g W own H i v s) : Stt K w W own (r.set i s) σ H := by
  refine ⟨S.ok, S.base, S.w0, S.g0, S.oW, S.inj, by rw [List.length_set]; exact S.len, fun j u hu n => ?_⟩
  by_cases hj : j = i
  · subst hj
    have hl : j < r.length := by
      have := (List.getElem?_eq_some_iff.mp hu).1
      rwa [List.length_set] at this
    rw [List.getElem?_set_self hl] at hu
    cases hu
    exact h n
  · rw [List.getElem?_set_ne (Ne.symm hj)] at hu
    exact S.sl j u hu n
theorem raws {g : Option Addr} {Hh : Hp} : ∀ xs : List V, DvAll K g Hh xs (xs.map .raw)
  | [] => .nil
  | x :: xs => .cons .raw (raws xs)
end
/-! ### for x in xs: x.append(c) -/
def dForApp (i j : Nat) : TDS := fun E r => (i ≠ j ∧ j < r.length) ∧ ∃ ds B, r[i]? = some (.reg ds) ∧ (∀ d ∈ ds, ∃ es, d = .lst es ∧ es.length ≤ B) ∧ B + ds.length < sizeLine ∧ ∀ xs : List V, xs.length = ds.length → E.nx ((r.set i (.reg (xs.map .raw))).set j .no)
section
variable {X : Cx} {w : Wd}
theorem psd_forApp {i j : Nat} {x y : Str} {px py qx qy apos cpos epos fpos : Pos} {c : Expr} {v0 : V} (hk : PE X c (fun σ H Q => Q v0 H)) (hN : X.N.Nodup) (hi : X.N[i]? = some x := by rfl) (hj : X.N[j]? = some y := by rfl)
    (hvi : Vis X.env.scope x := by first | exact Or.inl rfl | exact Or.inr (Or.inl rfl) | exact Or.inr (Or.inr rfl)) (hvj : Vis X.env.scope y := by first | exact Or.inl rfl | exact Or.inr (Or.inl rfl) | exact Or.inr (Or.inr rfl)) (hlj : Loc X.env.scope y := by first | exact .inl rfl | exact .inr rfl)
    (hfj : X.fn y = true ∨ X.env.scope.names.lookup y = some .local := by first | exact .inl rfl | exact .inr rfl) (hd : (x == ("__debug__" : Str)) = false := by decide) (hcd : (x == ("__classdict__" : Str)) = false := by decide) (hd' : (y == ("__debug__" : Str)) = false := by decide) (hcd' : (y == ("__classdict__" : Str)) = false := by decide)
    (hbase : attributeBase (.Name y qy) "append" X.env (eval (.Name y qy) X.env) = eval (.Name y qy) X.env := by rfl)
    (hfew : ((backTo cpos (starEach [c] X.env)).all (fun x => !x.1) && (backToKw cpos (keywordEach [] X.env)).all (fun x => x.1.isSome) && decide (([c] : List Expr).length + ([] : List Keyword).length + (if ([] : List Keyword).isEmpty then 0 else 1) < 30)) = true := by rfl)
    (hline : (apos.endLine == cpos.line) = true := by rfl) (hst : starEach [c] X.env = (false, eval c X.env) :: starEach [] X.env := by rfl) (hpl : (backTo cpos (starEach [] X.env)).any (·.1) = false := by rfl)
    (hs : swapsWith (.Call (.Attribute (.Name y qy) "append" apos) [c] [] cpos) none epos.line X.env = pure false := by rfl)
    (hp : PassesOwn (model X.prog X.w) X.A X.env X.xe := by exact PassesOwn.never) (hc : X.calm = true := by rfl) (hs2 : ∀ z, foldedSetIterable (.Name x qx) X.env z = pure z := by intro _; rfl) :
    PSd X w (.For (.Name y py) (.Name x qx) [.Expr (.Call (.Attribute (.Name y qy) "append" apos) [c] [] cpos) epos] [] fpos) (dForApp i j) := by
  refine ⟨weS (ps_for hp hc (pi_list (pv i hi hvi hd hcd)) (pg_name (i := j) hN hj hlj hfj) (pss_one (ps_expr (pe_bm PySem.F.plainAttrs_list PySem.F.slot_list_append PySem.F.type_list_append mt_append (pv j hj hvj hd' hcd') (pa_cons hk pa_nil hst) hbase hfew hline hst hpl) hs)) hs2) ?_, fun E E' r l ⟨h0, ds, B, h1, h2, h3, h4⟩ => ⟨h0, ds, B, h1, h2, h3, fun xs hx => l.nx _ (h4 xs hx)⟩⟩
  rintro E σ H ⟨W, own, r, S, ⟨hij, hjl⟩, ds, B, hr, hel, hB, h⟩
  obtain ⟨v, hv, a, xs, o1, rfl, o3, o4⟩ := S.sl i _ hr (fun z => by cases z)
  have lx : xs.length = ds.length := o4.len
  refine ⟨.ref a, hv, a, rfl, ⟨xs, SqL.of o3⟩, ?_⟩
  have S0 : Stt X.K w W own ((r.set i (.reg (xs.map .raw))).set j .no) σ H := (S.tell (s := .reg (xs.map .raw)) fun _ => ⟨.ref a, hv, a, xs, o1, rfl, o3, raws xs⟩).drop j
  -- what is known of the lists within
  have inn : ∀ x ∈ xs, ∃ q ys, x = .ref q ∧ own i q ∧ q ≠ a ∧ H q = some (.lst ys) ∧ ys.length ≤ B := by
    intro x hx
    obtain ⟨n, hn⟩ := List.getElem?_of_mem hx
    obtain ⟨d, hd, dv⟩ := o4.ta hn
    obtain ⟨es, rfl, he⟩ := hel d (List.mem_of_getElem? hd)
    cases dv with
    | @lst q ys _ b1 b2 =>
      have ne : q ≠ a := fun z => by rw [z, cutAt_same] at b1; cases b1
      rw [cutAt_ne ne] at b1
      by_cases oq : own i q
      · rw [vis_own oq] at b1
        exact ⟨q, ys, rfl, oq, ne, b1, by rw [b2.len]; exact he⟩
      · rw [vis_not oq] at b1
        have := (nom_some b1).2
        cases this
  refine ⟨fun k m σ' H' => m = xs.length - k ∧ k ≤ xs.length ∧ Stt X.K w W own ((r.set i (.reg (xs.map .raw))).set j .no) σ' H' ∧ Grow w.g W H W H' ∧ H' a = some (.lst xs) ∧ σ'[i]? = some (some (.ref a)) ∧ ∀ x ∈ xs, ∃ q ys, x = .ref q ∧ own i q ∧ q ≠ a ∧ H' q = some (.lst ys) ∧ ys.length ≤ B + k,
    ⟨xs.length, by simp, Nat.zero_le _, S0, .refl, o3, hv, inn⟩, ?_⟩
  rintro k m σ' H' ⟨rfl, hk', S', gr, ha, hva, inn'⟩
  have sq : SqL X.K H' a xs := SqL.of ha
  by_cases hl : k < xs.length
  · refine .inr ⟨⟨xs, xs[k], sq, List.getElem?_eq_getElem hl⟩, fun σ2 H2 => Stt X.K w W own ((r.set i (.reg (xs.map .raw))).set j .no) σ2 H2 ∧ Grow w.g W H W H2 ∧ H2 a = some (.lst xs) ∧ σ2[i]? = some (some (.ref a)) ∧ ∀ x ∈ xs, ∃ q ys, x = .ref q ∧ own i q ∧ q ≠ a ∧ H2 q = some (.lst ys) ∧ ys.length ≤ B + (k + 1), fun σ2 H2 z => ⟨xs.length - (k + 1), by omega, rfl, by omega, z⟩, fun x H2 y => ?_⟩
    obtain ⟨rfl, y⟩ := y
    have hx := y xs sq
    obtain ⟨q, ys, rfl, oq, ne, hq, hy⟩ := inn' x (List.mem_of_getElem? hx)
    have S2 := S'.forget j (some (.ref q))
    rw [List.set_set] at S2
    have lj : j < σ'.length := by
      have h1 := S'.len
      rw [List.length_set, List.length_set] at h1
      rw [← h1]
      exact hjl
    refine ⟨.ref q, by rw [List.getElem?_set_self lj], .inl ⟨rfl, _, SqL.of hq⟩, ?_⟩
    have er : ((((r.set i (.reg (xs.map .raw))).set j .no)).set i (.reg (xs.map .raw)) : En) = (r.set i (.reg (xs.map .raw))).set j .no := by
      rw [List.set_comm _ _ (Ne.symm hij), List.set_set]
    have told : ∃ v, (σ'.set j (some (.ref q)))[i]? = some (some v) ∧ SlD X.K w.g W own (upd H2 q (.lst (ys ++ [v0]))) i v (.reg (xs.map .raw)) := by
      exact ⟨.ref a, by rw [List.getElem?_set_ne (Ne.symm hij)]; exact hva, a, xs, o1, rfl, by rw [upd_ne (Ne.symm ne)]; exact ha, raws xs⟩
    obtain ⟨S3, g3⟩ := S2.putOwn (o := .lst (ys ++ [v0])) (s := .reg (xs.map .raw)) oq (.inl ⟨_, upd_same⟩) fun _ => told
    rw [er] at S3
    refine ⟨q, ys, v0, rfl, rfl, hq, by omega, S3, gr.trans g3, by rw [upd_ne (Ne.symm ne)]; exact ha, by rw [List.getElem?_set_ne (Ne.symm hij)]; exact hva, fun x hx => ?_⟩
    obtain ⟨q', ys', e1, e2, e3, e4, e5⟩ := inn' x hx
    by_cases z : q' = q
    · subst z
      rw [hq] at e4
      cases e4
      exact ⟨q', _, e1, e2, e3, upd_same, by rw [List.length_append, List.length_singleton]; omega⟩
    · exact ⟨q', ys', e1, e2, e3, by rw [upd_ne z]; exact e4, by omega⟩
  · exact .inl ⟨⟨xs, sq, by omega⟩, h xs lx W own σ' H' gr S'⟩

theorem reg_upd {K : PySem.W.Frag} {g : Option Addr} {W : Addr → Bool} {own : Ow} {H : Hp} {i : Nat} {a : Addr} {o : HO} {xs : List V} {ds : List Da} (hW : W a = true) (h : DvAll K g (cutAt a (vis W own H i)) xs ds) : DvAll K g (cutAt a (vis W own (upd H a o) i)) xs ds := by
  refine DvAll.mono (fun b u z => ?_) _ _ h
  by_cases q : b = a
  · rw [q, cutAt_same] at z; cases z
  · rw [cutAt_ne q] at z
    rw [cutAt_ne q]
    by_cases y : own i b
    · rw [vis_own y] at z
      rw [vis_own y, upd_ne q]
      exact z
    · rw [vis_not y] at z
      rw [vis_not y, hid_upd hW]
      exact z
/-! ### xs.append(e), of such a list -/
def dAppR (i : Nat) (te : TDE) : TDS := fun E r => ∃ ds, r[i]? = some (.reg ds) ∧ te r fun _ => ds.length < sizeLine ∧ ∀ v, E.nx (r.set i (.reg (ds ++ [.raw v])))
theorem psd_appR {i : Nat} {x : Str} {p apos cpos pos : Pos} {e : Expr} {te : TDE} (he : PEd X w e te) (hN : X.N[i]? = some x := by rfl) (hv : Vis X.env.scope x := by first | exact Or.inl rfl | exact Or.inr (Or.inl rfl) | exact Or.inr (Or.inr rfl)) (hd : (x == ("__debug__" : Str)) = false := by decide) (hcd : (x == ("__classdict__" : Str)) = false := by decide)
    (hbase : attributeBase (.Name x p) "append" X.env (eval (.Name x p) X.env) = eval (.Name x p) X.env := by rfl)
    (hfew : ((backTo cpos (starEach [e] X.env)).all (fun x => !x.1) && (backToKw cpos (keywordEach [] X.env)).all (fun x => x.1.isSome) && decide (([e] : List Expr).length + ([] : List Keyword).length + (if ([] : List Keyword).isEmpty then 0 else 1) < 30)) = true := by rfl)
    (hline : (apos.endLine == cpos.line) = true := by rfl) (hst : starEach [e] X.env = (false, eval e X.env) :: starEach [] X.env := by rfl) (hpl : (backTo cpos (starEach [] X.env)).any (·.1) = false := by rfl)
    (hs : swapsWith (.Call (.Attribute (.Name x p) "append" apos) [e] [] cpos) none pos.line X.env = pure false := by rfl) :
    PSd X w (.Expr (.Call (.Attribute (.Name x p) "append" apos) [e] [] cpos) pos) (dAppR i te) := by
  refine ⟨weS (ps_expr (pe_bm PySem.F.plainAttrs_list PySem.F.slot_list_append PySem.F.type_list_append mt_append (pv i hN hv hd hcd) (pa_cons he.pe pa_nil hst) hbase hfew hline hst hpl) hs) ?_, fun E E' r l ⟨ds, a, h⟩ => ⟨ds, a, he.mo _ _ _ (fun d z => ⟨z.1, fun v => l.nx _ (z.2 v)⟩) h⟩⟩
  rintro D σ H ⟨W, own, r, S, ds, hr, h⟩
  obtain ⟨v, hv, a, xs, o1, rfl, o3, o4⟩ := S.sl i _ hr (fun z => by cases z)
  refine ⟨.ref a, hv, .inl ⟨rfl, _, SqL.of o3⟩, ?_⟩
  refine go1 he S h fun d v H1 e1 k1 d1 z => ?_
  have S1 := S.ext e1 k1
  have e3 : H1 a = some (.lst xs) := e1 a _ (S.oW i a o1).2.2 o3
  have dv : DvAll X.K w.g (cutAt a (vis W own H1 i)) xs ds := DvAll.mono (cutAt_sm (vis_up (fun b o q z => ⟨q, e1 b o (S.oW i b q).2.2 z⟩) (e1.hid S.ok.gW))) _ _ o4
  obtain ⟨S', gr⟩ := S1.putOwn (o := .lst (xs ++ [v])) (s := .reg (ds ++ [.raw v])) o1 (.inl ⟨_, upd_same⟩) fun _ => ⟨.ref a, hv, a, xs ++ [v], o1, rfl, upd_same, (reg_upd (S.oW i a o1).1 dv).app (.cons .raw .nil)⟩
  exact ⟨a, xs, v, rfl, rfl, e3, by rw [o4.len]; exact z.1, z.2 v W own σ _ ((Grow.of k1 e1).trans gr) S'⟩
end
/-! ### new things -/
open Classical in
/-- of lists and dicts the new ones alone -/
noncomputable def newM (H Hh : Hp) : Hp := fun a => if H a = none then Hh a else nom (Hh a)
theorem newM_new {H Hh : Hp} {a : Addr} (h : H a = none) : newM H Hh a = Hh a := if_pos h
theorem newM_old {H Hh : Hp} {a : Addr} (h : H a ≠ none) : newM H Hh a = nom (Hh a) := if_neg h
theorem newM_le {H Hh : Hp} : Sm (newM H Hh) Hh := fun a o z => by
  by_cases q : H a = none
  · rw [newM_new q] at z; exact z
  · rw [newM_old q] at z; exact (nom_some z).1
theorem newM_up {H H' Hh Hh' : Hp} (h1 : ∀ a, H' a = none → H a = none) (h2 : Sm Hh Hh') : Sm (newM H' Hh) (newM H Hh') := fun a o z => by
  by_cases q' : H' a = none
  · rw [newM_new q'] at z
    rw [newM_new (h1 a q')]
    exact h2 a o z
  · rw [newM_old q'] at z
    obtain ⟨z1, z2⟩ := nom_some z
    by_cases q : H a = none
    · rw [newM_new q]
      exact h2 a o z1
    · rw [newM_old q, h2 a o z1]
      exact z2
/-- a new value: its lists and dicts are new -/
def AftN (K : PySem.W.Frag) (g : Option Addr) (W : Addr → Bool) (H : Hp) (Q : VK) (d : Da) : Prop := ∀ v H', Ext g H H' → OkW K g W H' → Dv K g (newM H (hid W H')) v d → Q v H'
/-- a new list of new things -/
def NewR (K : PySem.W.Frag) (g : Option Addr) (W : Addr → Bool) (H : Hp) (Q : VK) (ds : List Da) : Prop := ∀ p xs H1, Ext g H H1 → OkW K g W H1 → H1 p = none → DvAll K g (newM H (hid W H1)) xs ds → Q (.ref p) (upd H1 p (.lst xs))
structure PVd (X : Cx) (w : Wd) (e : Expr) (t : TDE) : Prop where
  pe : PE X e (fun σ H Q => ∃ W own r, Stt X.K w W own r σ H ∧ t r (AftN X.K w.g W H Q))
  mo : ∀ r Q Q', (∀ d, Q d → Q' d) → t r Q → t r Q'
structure PNd (X : Cx) (w : Wd) (e : Expr) (t : TDA) : Prop where
  pe : PE X e (fun σ H Q => ∃ W own r, Stt X.K w W own r σ H ∧ t r (NewR X.K w.g W H Q))
  mo : ∀ r Q Q', (∀ ds, Q ds → Q' ds) → t r Q → t r Q'
theorem Ext.none {g : Option Addr} {K : PySem.W.Frag} {W : Addr → Bool} {H H' : Hp} (e : Ext g H H') (k : OkW K g W H') {a : Addr} (h : H' a = none) : H a = none := by
  cases q : H a with
  | none => rfl
  | some o =>
    by_cases z : g = some a
    · obtain ⟨u, y⟩ := k.al a (k.gW a z)
      rw [h] at y; cases y
    · have := e a o z q
      rw [h] at this; cases this
theorem AftN.then {K : PySem.W.Frag} {g : Option Addr} {W : Addr → Bool} {H H' : Hp} {Q : VK} {d : Da} (h : AftN K g W H Q d) (e : Ext g H H') (k : OkW K g W H') : AftN K g W H' Q d := fun v H2 e2 k2 dv => h v H2 (e.trans e2) k2 (Dv.mono (newM_up (fun a ha => e.none k ha) fun _ _ z => z) _ _ dv)
section
variable {X : Cx} {w : Wd} {e : Expr} {es : List Expr} {pos : Pos}
/-- told = a new list of new things -/
def dSetR (t : TDA) (i : Nat) : TDS := fun E r => t r fun ds => E.nx (r.set i (.reg ds))
theorem Stt.newReg {K : PySem.W.Frag} {w : Wd} {W : Addr → Bool} {own : Ow} {r : En} {σ : L2.St} {H H1 : Hp} (S : Stt K w W own r σ H) (i : Nat) {p : Addr} {xs : List V} {ds : List Da} (e1 : Ext w.g H H1) (k1 : OkW K w.g W H1) (np : H1 p = none) (dv : DvAll K w.g (newM H (hid W H1)) xs ds) :
    ∃ W' own', Stt K w W' own' (r.set i (.reg ds)) (σ.set i (some (.ref p))) (upd H1 p (.lst xs)) ∧ Grow w.g W H W' (upd H1 p (.lst xs)) := by
  have nH : H p = none := e1.none k1 np
  have nW : ∀ a, H a = none → W a = false := fun a h => by
    cases y : W a with
    | false => rfl
    | true => obtain ⟨o, q⟩ := S.ok.al a y; rw [h] at q; cases q
  have ge : ∀ a, H a = none → w.g ≠ some a := fun a h z => by
    obtain ⟨o, q⟩ := S.ok.al a (S.ok.gW a z)
    rw [h] at q; cases q
  have up : ∀ a o, H1 a = some o → upd H1 p (.lst xs) a = some o := fun a o h => by rw [upd_ne (ne_of_none h np)]; exact h
  have oldH : ∀ a o, w.g ≠ some a → H a = some o → upd H1 p (.lst xs) a = some o := fun a o n h => up a o (e1 a o n h)
  -- what is one's own from now on
  let nw : Addr → Prop := fun a => H a = none ∧ Mut (upd H1 p (.lst xs)) a
  have hp : nw p := ⟨nH, .inl ⟨xs, upd_same⟩⟩
  open Classical in
  let W' : Addr → Bool := fun a => W a || decide (nw a)
  have W'o : ∀ a, W a = true → W' a = true := fun a h => by show (W a || _) = true; rw [h]; rfl
  have W'n : ∀ a, nw a → W' a = true := fun a h => by
    show (W a || decide (nw a)) = true
    rw [Bool.or_eq_true]
    exact .inr (decide_eq_true h)
  have W'i : ∀ a, W' a = true → W a = true ∨ nw a := fun a h => by
    have h' : (W a || decide (nw a)) = true := h
    rw [Bool.or_eq_true] at h'
    exact h'.imp id fun z => of_decide_eq_true z
  have W'f : ∀ a, W a = false → ¬ nw a → W' a = false := fun a h n => by
    cases y : W' a with
    | false => rfl
    | true => exact (W'i a y).elim (fun z => by rw [h] at z; cases z) fun z => absurd z n
  have sm : Sm (hid W H) (hid W' (upd H1 p (.lst xs))) := fun a o q => by
    obtain ⟨q1, q2⟩ := hid_some q
    rw [hid_no (W'f a q1 fun z => by rw [z.1] at q2; cases q2)]
    exact oldH a o (fun z => by rw [S.ok.gW a z] at q1; cases q1) q2
  refine ⟨W', fun j a => (j = i ∧ nw a) ∨ (j ≠ i ∧ own j a), ⟨⟨fun b hb => ?_, fun b hb => W'o b (S.ok.gW b hb), fun b hb => ?_⟩, S.base.trans (e1.trans (Ext.of (sm_upd np))), fun b hb => W'o b (S.w0 b hb), S.g0, fun j a h => ?_, fun j k a q1 q2 => ?_, by rw [List.length_set, List.length_set]; exact S.len, fun j d h n => ?_⟩, ?_⟩
  · obtain ⟨x, y, z, c, cs, q1, q2⟩ := S.ok.bag b hb
    obtain ⟨x', y', z', c', cs', q3, q4⟩ := k1.bag b hb
    obtain ⟨ys, q5, q6⟩ := e1.last b _ hb q1
    rw [q3] at q5
    cases q5
    have ec : c' = c := V.ref.inj (Option.some.inj q6)
    subst ec
    have bg : upd H1 p (.lst xs) b = some (.lst [.int x', .int y', .int z', .ref c']) := up b _ q3
    exact ⟨x', y', z', c', cs, bg, sm _ _ q2⟩
  · rcases W'i b hb with z | z
    · obtain ⟨o, q⟩ := k1.al b z
      exact ⟨o, up b o q⟩
    · rcases z.2 with ⟨u, z⟩ | ⟨u, z⟩
      · exact ⟨_, z⟩
      · exact ⟨_, z⟩
  · rcases h with ⟨_, h⟩ | ⟨_, h⟩
    · refine ⟨W'n a h, ?_, ge a h.1⟩
      cases q : w.H0 a with
      | none => rfl
      | some o =>
        have := S.base a o (ge a h.1) q
        rw [h.1] at this; cases this
    · obtain ⟨z1, z2, z3⟩ := S.oW j a h
      exact ⟨W'o a z1, z2, z3⟩
  · rcases q1 with ⟨rfl, q1⟩ | ⟨n1, q1⟩
    · rcases q2 with ⟨rfl, _⟩ | ⟨n2, q2⟩
      · exact ⟨rfl, q1.2⟩
      · obtain ⟨o, z⟩ := S.ok.al a (S.oW k a q2).1
        rw [q1.1] at z; cases z
    · rcases q2 with ⟨rfl, q2⟩ | ⟨n2, q2⟩
      · obtain ⟨o, z⟩ := S.ok.al a (S.oW j a q1).1
        rw [q2.1] at z; cases z
      · exact ⟨(S.inj j k a q1 q2).1, (S.inj j k a q1 q2).2.up fun o z => oldH a o (S.oW j a q1).2.2 z⟩
  · by_cases hj : j = i
    · subst hj
      have hl : j < r.length := by
        have := (List.getElem?_eq_some_iff.mp h).1
        rwa [List.length_set] at this
      rw [List.getElem?_set_self hl] at h
      cases h
      refine ⟨.ref p, by rw [List.getElem?_set_self (by rw [← S.len]; exact hl)], p, xs, .inl ⟨rfl, hp⟩, rfl, upd_same, DvAll.mono (fun a o z => ?_) _ _ dv⟩
      have z0 := newM_le a o z
      obtain ⟨z1, z2⟩ := hid_some z0
      have ne : a ≠ p := ne_of_none z2 np
      rw [cutAt_ne ne]
      by_cases y : nw a
      · rw [vis_own (.inl ⟨rfl, y⟩)]
        exact up a o z2
      · have no : nom (some o) = some o := by
          by_cases q : H a = none
          · have nm : ¬ Mut (upd H1 p (.lst xs)) a := fun m => y ⟨q, m⟩
            cases o with
            | lst u => exact absurd (.inl ⟨u, up a _ z2⟩) nm
            | dK u => exact absurd (.inr ⟨u, up a _ z2⟩) nm
            | _ => rfl
          · rw [newM_old q] at z
            exact (nom_some z).2
        rw [vis_not (fun q => q.elim (fun q => y q.2) fun q => absurd rfl q.1), hid_no (W'f a z1 y), up a o z2]
        exact no
    · rw [List.getElem?_set_ne (Ne.symm hj)] at h
      obtain ⟨v, q1, q2⟩ := S.sl j d h n
      refine ⟨v, by rw [List.getElem?_set_ne (Ne.symm hj)]; exact q1, ?_⟩
      cases d with
      | no => exact absurd rfl n
      | dat d => exact Dv.mono sm _ _ q2
      | own fs =>
        obtain ⟨b, zs, p1, p2, p3, p4⟩ := q2
        exact ⟨b, zs, ⟨.inr ⟨hj, p1.1⟩, fun c hc => hc.elim (fun z => absurd z.1 hj) fun z => p1.2 c z.2⟩, p2, oldH b _ (S.oW j b p1.1).2.2 p3, DvAll.mono sm _ _ p4⟩
      | reg ds' =>
        obtain ⟨b, zs, p1, p2, p3, p4⟩ := q2
        exact ⟨b, zs, .inr ⟨hj, p1⟩, p2, oldH b _ (S.oW j b p1).2.2 p3, DvAll.mono (cutAt_sm (vis_up (fun a o q z => ⟨.inr ⟨hj, q⟩, oldH a o (S.oW j a q).2.2 z⟩) sm)) _ _ p4⟩
  · refine ⟨fun b o n wb hb => oldH b o n hb, fun b hb => ?_, fun b hb => (W'i b hb).imp id fun z => z.1⟩
    cases q : H b with
    | none => exact absurd q hb
    | some o =>
      by_cases z : w.g = some b
      · obtain ⟨u, y⟩ := k1.al b (k1.gW b z)
        rw [up b u y]
        intro n; cases n
      · rw [oldH b o z q]
        intro n; cases n
theorem psd_setR {i : Nat} {x : Str} {pos pos' : Pos} {t : TDA} (he : PNd X w e t) (hN : X.N.Nodup) (hi : X.N[i]? = some x := by rfl) (hx : Loc X.env.scope x := by first | exact .inl rfl | exact .inr rfl) (hs : swapsWith e (some (.Name x pos')) pos.line X.env = pure false := by rfl)
    (hf : X.fn x = true ∨ X.env.scope.names.lookup x = some .local := by first | exact .inl rfl | exact .inr rfl) : PSd X w (.Assign [.Name x pos'] e pos) (dSetR t i) := by
  refine ⟨weS (ps_set hN hi hx he.pe hs hf) ?_, fun E E' r l h => he.mo _ _ _ (fun d => l.nx _) h⟩
  rintro D σ H ⟨W, own, r, S, h⟩
  refine ⟨W, own, r, S, he.mo _ _ _ (fun ds z p xs H1 e1 k1 np dv => ?_) h⟩
  obtain ⟨W', own', S', gr⟩ := S.newReg i e1 k1 np dv
  exact z W' own' _ _ gr S'
end
end Pd
/-! Dict comprehensions; defs that return new things. -/
namespace Pd
open PySem PySem.Spec PyProof.Rows L2
/-! ### a dict that grows at D -/
structure GrD (K : PySem.W.Frag) (g : Option Addr) (W : Addr → Bool) (H1 : Hp) (D : Addr) (H' : Hp) (ad : List (Key × Da)) : Prop where
  ext : Ext g H1 H'
  bag : BagI K g (hideD W D) H'
  at_ : ∃ av, H' D = some (.dK av) ∧ KvAll K g (hid (hideD W D) H') av ad
theorem KvAll.len {K : PySem.W.Frag} {g : Option Addr} {H : Hp} : ∀ {us : List (Key × V)} {kvs : List (Key × Da)}, KvAll K g H us kvs → us.length = kvs.length
  | _, _, .nil => rfl
  | _, _, .cons _ t => by rw [List.length_cons, List.length_cons, t.len]
section
variable {K : PySem.W.Frag} {g : Option Addr} {W : Addr → Bool} {H H' H1 : Hp} {D : Addr} {ad : List (Key × Da)}
theorem GrD.go (G : GrD K g W H1 D H ad) (gne : g ≠ some D) (gW : ∀ a, g = some a → hideD W D a = true) (e : Ext g H H') (b : BagI K g (hideD W D) H') : GrD K g W H1 D H' ad := by
  obtain ⟨av, h1, h2⟩ := G.at_
  exact ⟨G.ext.trans e, b, av, e D _ gne h1, KvAll.mono (e.hid gW) _ _ h2⟩
theorem GrD.put (G : GrD K g W H1 D H ad) (hD : H1 D = none) (gne : g ≠ some D) (k : Key) {v : V} {y : Da} (d : Dv K g (hid (hideD W D) H) v y) : ∃ av, H D = some (.dK av) ∧ av.length = ad.length ∧ GrD K g W H1 D (upd H D (.dK (putK av k v))) (putD ad k y) := by
  obtain ⟨av, h1, h2⟩ := G.at_
  refine ⟨av, h1, h2.len, ⟨fun b o nb hb => ?_, fun a xs ha hx => ?_⟩, fun a ha => ?_, putK av k v, upd_same, by rw [hidD_upd]; exact h2.put d⟩
  · rw [upd_ne (ne_of_none hb hD)]
    exact G.ext b o nb hb
  · have ne : a ≠ D := fun z => gne (z ▸ ha)
    rw [upd_ne ne]
    exact G.ext.last a xs ha hx
  · obtain ⟨x, y, z, c, cs, q1, q2⟩ := G.bag a ha
    have ne : a ≠ D := fun z => gne (z ▸ ha)
    exact ⟨x, y, z, c, cs, by rw [upd_ne ne]; exact q1, by rw [hidD_upd]; exact q2⟩
theorem GrD.new (G : GrD K g W H1 D H ad) (hD : H1 D = none) (k : OkW K g W H1) : ∃ xs Hm, Ext g H1 Hm ∧ OkW K g W Hm ∧ Hm D = none ∧ KvAll K g (hid W Hm) xs ad ∧ H = upd Hm D (.dK xs) := by
  obtain ⟨av, h1, h2⟩ := G.at_
  have gne : g ≠ some D := fun z => by
    obtain ⟨o, q⟩ := k.al D (k.gW D z)
    rw [hD] at q; cases q
  have WD : W D = false := by
    cases y : W D with
    | false => rfl
    | true => obtain ⟨o, q⟩ := k.al D y; rw [hD] at q; cases q
  have eq : hid (hideD W D) H = hid W (cutAt D H) := by
    funext b
    unfold hid
    by_cases z : b = D
    · subst z
      rw [hideD_at, if_pos rfl, WD, if_neg Bool.false_ne_true, cutAt_same]
    · rw [hideD_ne z, cutAt_ne z]
  refine ⟨av, cutAt D H, ⟨fun b o nb hb => ?_, fun a xs ha hx => ?_⟩, ⟨fun a ha => ?_, k.gW, fun a ha => ?_⟩, cutAt_same, by rw [← eq]; exact h2, ?_⟩
  · rw [cutAt_ne (ne_of_none hb hD)]
    exact G.ext b o nb hb
  · have ne : a ≠ D := fun z => gne (z ▸ ha)
    obtain ⟨ys, q1, q2⟩ := G.ext.last a xs ha hx
    exact ⟨ys, by rw [cutAt_ne ne]; exact q1, q2⟩
  · obtain ⟨x, y, z, c, cs, q1, q2⟩ := G.bag a ha
    have ne : a ≠ D := fun z => gne (z ▸ ha)
    exact ⟨x, y, z, c, cs, by rw [cutAt_ne ne]; exact q1, by rw [← eq]; exact q2⟩
  · have ne : a ≠ D := fun z => by rw [z, WD] at ha; cases ha
    rw [cutAt_ne ne]
    by_cases y : g = some a
    · obtain ⟨_, _, _, _, _, q, _⟩ := G.bag a y
      exact ⟨_, q⟩
    · obtain ⟨o, q⟩ := k.al a ha
      exact ⟨o, G.ext a o y q⟩
  · funext b
    by_cases z : b = D
    · rw [z, h1, upd_same]
    · rw [upd_ne z, cutAt_ne z]
end
/-- what a new dict must give -/
def NewD (K : PySem.W.Frag) (g : Option Addr) (W : Addr → Bool) (H : Hp) (Q : VK) (ds : List (Key × Da)) : Prop := ∀ p us H1, Ext g H H1 → OkW K g W H1 → H1 p = none → KvAll K g (hid W H1) us ds → Q (.ref p) (upd H1 p (.dK us))
abbrev TDK := En → (List (Key × Da) → Prop) → Prop
structure PDd (X : Cx) (w : Wd) (e : Expr) (t : TDK) : Prop where
  pe : PE X e (fun σ H Q => ∃ W own r, Stt X.K w W own r σ H ∧ t r (NewD X.K w.g W H Q))
  mo : ∀ r Q Q', (∀ ds, Q ds → Q' ds) → t r Q → t r Q'
def dcK (gd : TDG) (tt : TDT) (tk tv : TDE) (vs : List Nat) (r : En) (k : List (Key × Da) → Prop) : List Da → List (Key × Da) → Prop
  | [], acc => k acc
  | d :: ds, acc => gd d (wipeD r vs) fun r2 => tt r2 fun b => if b = true then tk r2 fun y => tv r2 fun z => ∃ key, y = kD key ∧ acc.length < sizeLine ∧ dcK gd tt tk tv vs r k ds (putD acc key z) else dcK gd tt tk tv vs r k ds acc
theorem dcK_mo {gd : TDG} {tt : TDT} {tk tv : TDE} {vs : List Nat} {r : En} (mg : ∀ d r Q Q', (∀ r, Q r → Q' r) → gd d r Q → gd d r Q') (mt : ∀ r Q Q', (∀ b, Q b → Q' b) → tt r Q → tt r Q') (mk : ∀ r Q Q', (∀ b, Q b → Q' b) → tk r Q → tk r Q') (me : ∀ r Q Q', (∀ b, Q b → Q' b) → tv r Q → tv r Q') {k k' : List (Key × Da) → Prop} (q : ∀ d, k d → k' d) :
    ∀ ds acc, dcK gd tt tk tv vs r k ds acc → dcK gd tt tk tv vs r k' ds acc
  | [], acc, h => q _ h
  | d :: ds, acc, h => mg _ _ _ _ (fun r2 z => mt _ _ _ (fun b z => ite_mo (mk _ _ _ fun y => me _ _ _ fun x ⟨key, e, l, z⟩ => ⟨key, e, l, dcK_mo mg mt mk me q ds _ z⟩) (dcK_mo mg mt mk me q ds _) z) z) h
section
variable {K : PySem.W.Frag} {w : Wd}
theorem dc_in {g : TG} {gd : TDG} {gvs vs : List Nat} {tt : TDT} {tk tv : TDE} {σ : L2.St} {H : Hp} {Q : VK} {wd : TDI} {W : Addr → Bool} {own : Ow} {r : En} (G : GDs K g gd gvs) (gmo : ∀ v σ H Q Q', (∀ a b, Q a b → Q' a b) → g v σ H Q → g v σ H Q') (sub : ∀ i ∈ gvs, i ∈ vs)
    (mt : ∀ r Q Q', (∀ b, Q b → Q' b) → tt r Q → tt r Q') (mk : ∀ r Q Q', (∀ b, Q b → Q' b) → tk r Q → tk r Q') (me : ∀ r Q Q', (∀ b, Q b → Q' b) → tv r Q → tv r Q') (mw : ∀ r Q Q', (∀ ds, Q ds → Q' ds) → wd r Q → wd r Q')
    (S : Stt K w W own r σ H) (h : wd r fun ds => dcK gd tt tk tv vs r (NewD K w.g W H Q) ds []) : tDc (liI K w wd) g (liT K w tt) (liE K w tk) (liE K w tv) vs σ H Q := by
  refine ⟨W, own, r, S, mw _ _ _ (fun ds q J H1 e1 k1 wk => ?_) h⟩
  intro D hD
  have S1 := S.ext e1 k1
  have gne : w.g ≠ some D := fun z => by
    obtain ⟨o, z2⟩ := S1.ok.al D (S1.ok.gW D z)
    rw [hD] at z2; cases z2
  have start : GrD K w.g W H1 D (upd H1 D (.dK [])) [] := by
    refine ⟨Ext.of (sm_upd hD), fun a ha => ?_, [], upd_same, .nil⟩
    obtain ⟨x, y, z, c, cs, b1, b2⟩ := k1.bag a ha
    obtain ⟨c1, c2⟩ := hid_some b2
    have ne : a ≠ D := ne_of_none b1 hD
    have ne2 : c ≠ D := ne_of_none c2 hD
    exact ⟨x, y, z, c, cs, by rw [upd_ne ne]; exact b1, by rw [hid_no (by rw [hideD_ne ne2]; exact c1), upd_ne ne2]; exact c2⟩
  refine ⟨fun i m H' => m = ds.length - i ∧ i ≤ ds.length ∧ ∃ ad, GrD K w.g W H1 D H' ad ∧ dcK gd tt tk tv vs r (NewD K w.g W H Q) (ds.drop i) ad, ⟨ds.length, by simp, Nat.zero_le _, [], start, by rw [List.drop_zero]; exact q⟩, ?_⟩
  rintro i m H' ⟨rfl, hi', ad, gr, f⟩
  obtain ⟨av, hav, _⟩ := gr.at_
  have SD : Stt K w (hideD W D) own r σ H' := by
    -- as with a list that grows
    have sub : Sm (hid W H1) (hid (Pd.hideD W D) H') := fun a o q => by
      obtain ⟨q1, q2⟩ := hid_some q
      have ne : a ≠ D := fun z => by rw [z, hD] at q2; cases q2
      rw [hid_no (by rw [hideD_ne ne]; exact q1)]
      exact gr.ext a o (fun z => by rw [S1.ok.gW a z] at q1; cases q1) q2
    have kp : ∀ i a o, own i a → H1 a = some o → H' a = some o := fun i a o q z => gr.ext a o (S1.oW i a q).2.2 z
    refine ⟨⟨gr.bag, fun a h => hideD_le (S1.ok.gW a h), fun a h => ?_⟩, S1.base.trans gr.ext, fun a h => hideD_le (S1.w0 a h), S1.g0, fun i a h => ⟨hideD_le (S1.oW i a h).1, (S1.oW i a h).2⟩, fun i j a h1 h2 => ⟨(S1.inj i j a h1 h2).1, (S1.inj i j a h1 h2).2.up fun o z => kp i a o h1 z⟩, S1.len, fun i d h n => ?_⟩
    · by_cases z : a = D
      · exact ⟨_, by rw [z]; exact hav⟩
      · rw [hideD_ne z] at h
        by_cases y : w.g = some a
        · obtain ⟨_, _, _, _, _, q, _⟩ := gr.bag a y
          exact ⟨_, q⟩
        · obtain ⟨o, q⟩ := S1.ok.al a h
          exact ⟨o, gr.ext a o y q⟩
    · obtain ⟨v, h1, h2⟩ := S1.sl i d h n
      refine ⟨v, h1, ?_⟩
      cases d with
      | no => trivial
      | dat d => exact Dv.mono sub _ _ h2
      | own ds =>
        obtain ⟨a, xs, q1, q2, q3, q4⟩ := h2
        exact ⟨a, xs, q1, q2, kp i a _ q1.1 q3, DvAll.mono sub _ _ q4⟩
      | reg ds =>
        obtain ⟨a, xs, q1, q2, q3, q4⟩ := h2
        exact ⟨a, xs, q1, q2, kp i a _ q1 q3, DvAll.mono (cutAt_sm (vis_up (fun a o q z => ⟨q, kp i a o q z⟩) sub)) _ _ q4⟩
  have sm : Sm (hid W H1) (hid (hideD W D) H') := fun a o z => by
    obtain ⟨q1, q2⟩ := hid_some z
    have ne : a ≠ D := ne_of_none q2 hD
    rw [hid_no (by rw [hideD_ne ne]; exact q1)]
    exact gr.ext a o (fun z => by rw [k1.gW a z] at q1; cases q1) q2
  have sm' : Sm (hid W H1) H' := fun a o z => (hid_some (sm a o z)).2
  obtain ⟨w1, w2, w3⟩ := wk i H' sm'
  by_cases hl : i < ds.length
  · refine .inr ⟨w1 hl, fun H2 => ∃ ad, GrD K w.g W H1 D H2 ad ∧ dcK gd tt tk tv vs r (NewD K w.g W H Q) (ds.drop (i + 1)) ad, fun H2 z => ⟨ds.length - (i + 1), by omega, rfl, by omega, z⟩, fun x H2 y => ?_⟩
    obtain ⟨sH, d, hd, dv⟩ := w3 x H2 hl y
    have e2 : Ext w.g H' H2 := Ext.of sH
    have k2 : OkW K w.g (hideD W D) H2 := SD.ok.same sH
    have S2 := (SD.ext e2 k2).wipe vs
    have dvx : Dv K w.g (hid (hideD W D) H2) x d := by
      refine dv _ (fun a o z => e2.hid SD.ok.gW a o (sm a o z)) fun b o nb z => ?_
      rw [hid_no]
      · exact z
      · cases y' : hideD W D b with
        | false => rfl
        | true =>
          obtain ⟨o', z'⟩ := SD.ok.al b y'
          rw [nb] at z'; cases z'
    rw [drop_at hd] at f
    have gr2 := gr.go gne SD.ok.gW e2 k2.bag
    refine gmo _ _ _ _ _ ?_ (G.run w (hideD W D) own (wipeD r vs) (L2.wipe σ vs) H2 x d _ S2 dvx f)
    rintro σ3 H3 ⟨rfl, wp, own3, r3, _, S3, t3⟩
    refine ⟨by rw [wp vs sub, wipe_idem], hideD W D, own3, r3, S3, mt _ _ _ (fun b z H4 e4 k4 => ?_) t3⟩
    have gr4 := gr2.go gne SD.ok.gW e4 k4.bag
    refine ite_mo (fun z => ?_) (fun z => ⟨ad, gr4, z⟩) z
    refine ⟨hideD W D, own3, r3, S3.ext e4 k4, mk _ _ _ (fun y z v H5 e5 k5 d5 => ?_) z⟩
    have gr5 := gr4.go gne SD.ok.gW e5 k5.bag
    refine ⟨hideD W D, own3, r3, (S3.ext e4 k4).ext e5 k5, me _ _ _ (fun u z v6 H6 e6 k6 d6 => ?_) z⟩
    obtain ⟨key, rfl, hl2, z⟩ := z
    obtain ⟨av6, q1, q2, q3⟩ := (gr5.go gne SD.ok.gW e6 k6.bag).put hD gne key d6
    exact ⟨av6, key, kD_v d5, q1, by rw [q2]; exact hl2, _, q3, z⟩
  · refine .inl ⟨w2 (by omega), ?_⟩
    rw [List.drop_eq_nil_of_le (by omega)] at f
    obtain ⟨xs, Hm, m1, m2, m3, m4, rfl⟩ := gr.new hD k1
    exact f D xs Hm (e1.trans m1) m2 m3 m4
end
section
variable {X : Cx} {w : Wd} {e : Expr} {es : List Expr} {pos : Pos}
theorem pdd_dc {kx vx tg iter : Expr} {ifs : List Expr} {scope : Scope} {own : List (Str × Nat)} {g : TG} {gd : TDG} {gvs : List Nat} {wd : TDI} {tt : TDT} {tk tv : TDE} (hN : X.N.Nodup) (hi : PId X w tg iter wd) (ok : BlkOk X.N X.env.scope scope own) (G : GDs X.K g gd gvs) (gmo : ∀ v σ H Q Q', (∀ a b, Q a b → Q' a b) → g v σ H Q → g v σ H Q') (sub : ∀ i ∈ gvs, i ∈ own.map (·.2))
    (hg : ∀ (s : Shared) (H : Hp) (C : Addr) (cl : List (Str × Addr)) (fp : List Addr), PG (X.blk s H scope (compEnvC scope cl C X.env) fp) tg g)
    (ht : ∀ (s : Shared) (H : Hp) (C : Addr) (cl : List (Str × Addr)) (fp : List Addr), PTsd (X.blk s H scope (compEnvC scope cl C X.env) fp) w ifs tt)
    (hk : ∀ (s : Shared) (H : Hp) (C : Addr) (cl : List (Str × Addr)) (fp : List Addr), PEd (X.blk s H scope (compEnvC scope cl C X.env) fp) w kx tk)
    (he : ∀ (s : Shared) (H : Hp) (C : Addr) (cl : List (Str × Addr)) (fp : List Addr), PEd (X.blk s H scope (compEnvC scope cl C X.env) fp) w vx tv)
    (s0 : Shared) (hc : X.calm = true := by rfl) (hs : ∀ x, foldedSetIterable iter X.env x = pure x := by intro _; rfl) :
    PDd X w (.DictComp kx vx [⟨tg, iter, ifs, 0⟩] scope pos) (fun r Q => wd r fun ds => dcK gd tt tk tv (own.map (·.2)) r Q ds []) := by
  have mt := (ht s0 (fun _ => none) 0 [] []).mo
  have mk := (hk s0 (fun _ => none) 0 [] []).mo
  have me := (he s0 (fun _ => none) 0 [] []).mo
  refine ⟨weE (pe_dc (tt := liT X.K w tt) (tk := liE X.K w tk) (tv := liE X.K w tv) hc hN hi.pi ok hg (fun s H C cl fp => (ht s H C cl fp).pt) (fun s H C cl fp => (hk s H C cl fp).pe) (fun s H C cl fp => (he s H C cl fp).pe) hs) ?_, fun r Q Q' q h => hi.mo _ _ _ (fun ds => dcK_mo G.mo mt mk me q ds []) h⟩
  rintro σ H Q ⟨W, own, r, S, h⟩
  exact dc_in G gmo sub mt mk me hi.mo S h
/-- a new dict as a datum -/
theorem PDd.ped {t : TDK} (h : PDd X w e t) : PEd X w e (fun r Q => t r fun ds => Q (.dct ds)) := by
  refine ⟨weE h.pe ?_, fun r Q Q' q z => h.mo _ _ _ (fun ds z => q _ z) z⟩
  rintro σ H Q ⟨W, own, r, S, z⟩
  refine ⟨W, own, r, S, h.mo _ _ _ (fun ds q p us H1 e1 k1 np dv => ?_) z⟩
  obtain ⟨n1, n2, n3, n4⟩ := k1.new (o := .dK us) np
  exact q _ _ (e1.trans n1) n2 (.dct n4 (KvAll.mono n3 _ _ dv))
def noLk : List (Key × Da) → Bool
  | [] => true
  | (_, d) :: ds => noL d && noLk ds
theorem KvAll.sees {K : PySem.W.Frag} {g g' : Option Addr} {H H' : Hp} (e : Sees H H') : ∀ {kvs : List (Key × Da)} {us : List (Key × V)}, noLk kvs = true → KvAll K g H us kvs → KvAll K g' H' us kvs
  | [], _, _, h => by cases h; exact .nil
  | (k, d) :: kvs, _, n, h => by
    rw [noLk, Bool.and_eq_true] at n
    cases h with
    | cons h1 h2 => exact .cons (Dv.sees e d _ n.1 h1) (KvAll.sees e n.2 h2)
theorem sees_new {H Hh Hh' : Hp} (e : Sm Hh Hh') : Sees Hh (newM H Hh') := fun a o h n1 n2 => by
  by_cases q : H a = none
  · rw [newM_new q]; exact e a o h
  · rw [newM_old q, e a o h]
    cases o with
    | lst xs => exact absurd rfl (n1 xs)
    | dK xs => exact absurd rfl (n2 xs)
    | _ => rfl
/-- a new dict of what cannot change, as a new value -/
theorem PDd.pvd {t : TDK} (h : PDd X w e t) : PVd X w e (fun r Q => t r fun ds => noLk ds = true ∧ Q (.dct ds)) := by
  refine ⟨weE h.pe ?_, fun r Q Q' q z => h.mo _ _ _ (fun ds z => ⟨z.1, q _ z.2⟩) z⟩
  rintro σ H Q ⟨W, own, r, S, z⟩
  refine ⟨W, own, r, S, h.mo _ _ _ (fun ds q p us H1 e1 k1 np dv => ?_) z⟩
  obtain ⟨n1, n2, n3, n4⟩ := k1.new (o := .dK us) np
  exact q.2 _ _ (e1.trans n1) n2 (.dct (by rw [newM_new (e1.none k1 np)]; exact n4) (KvAll.sees (sees_new n3) q.1 dv))
end
end Pd
/-! repr of data of all sorts; lists of dicts compared. -/
namespace Pd
open PySem PySem.Spec PyProof.Rows L2
mutual
def toX : Da → PyData
  | .non => .none
  | .bl b => .bool b
  | .int i => .int i
  | .str x => .str x
  | .lst xs => .list (toXs xs)
  | .tup xs => .tuple (toXs xs)
  | .tpw xs => .tuple (toXs xs)
  | .dct kvs => .dict (toXk kvs)
  | .bag => .none
  | .raw _ => .none
  | .fix _ => .none
def toXs : List Da → List PyData
  | [] => []
  | x :: xs => toX x :: toXs xs
def toXk : List (Key × Da) → List (PyData × PyData)
  | [] => []
  | (k, x) :: xs => (keyP k, toX x) :: toXk xs
end
mutual
def canX : Da → Bool
  | .non => true
  | .bl _ => true
  | .int _ => true
  | .str _ => true
  | .lst xs => canXs xs
  | .tup xs => canXs xs
  | .tpw xs => canXs xs
  | .dct kvs => canXk kvs
  | .bag => false
  | .raw _ => false
  | .fix _ => false
def canXs : List Da → Bool
  | [] => true
  | x :: xs => canX x && canXs xs
def canXk : List (Key × Da) → Bool
  | [] => true
  | (_, x) :: xs => canX x && canXk xs
end
theorem keys_readsX {P : Program} {wd : World} {h : Heap} : ∀ {es : List DictEntry} {us : List (Key × Value)} {kds : List (Key × Da)}, Pairs (mixKind P wd) es us → us.map (·.1) = kds.map (·.1) → ReadsAll h (es.map (·.key)) ((toXk kds).map (·.1)) []
  | _, _, [], .nil, _ => by rw [toXk]; exact .nil
  | _, _, _ :: _, .nil, e => by cases e
  | _, _, [], .cons _ _ _, e => by cases e
  | _, _, (k, x) :: kds, .cons (e := en) (kv := kv) h1 h2 h3, e => by
    rw [List.map_cons, List.map_cons] at e
    injection e with e1 e2
    have t := keys_readsX (h := h) h3 e2
    rw [toXk, List.map_cons, List.map_cons]
    have hk : keyIs kv.1 en.key = true := h1
    rw [e1] at hk
    rcases keyIs_shape hk with ⟨i, t0, q1, q2⟩ | ⟨y, t0, q1, q2⟩
    · have q1' : k = .inl i := q1
      rw [q2, q1']
      exact ReadsAll.cons (as := []) (bs := []) (Reads.int i t0) t
    · have q1' : k = .inr y := q1
      rw [q2, q1']
      exact ReadsAll.cons (as := []) (bs := []) (Reads.str y t0) t
section
variable {X : Cx} {pins : List (Addr × Obj)} {σ : L2.St} {H : Hp} {s : Shared} {g : Option Addr} {Hh : Hp}
mutual
theorem Dv.readsX (I : Inv X pins σ H s) (hb : ∃ o, X.base.get? sysModules = some o) (sm : Sm Hh H) : ∀ (d : Da) (v : V) (u : Value), Dv X.K g Hh v d → canX d = true → RelV v u → ∃ as, Reads s.heap u (toX d) as ∧ sysModules ∉ as
  | .non, _, _, h, _, r => by cases h; cases r; exact ⟨[], by rw [toX]; exact .none, List.not_mem_nil⟩
  | .bl b, _, _, h, _, r => by cases h; cases r; exact ⟨[], by rw [toX]; exact .bool b, List.not_mem_nil⟩
  | .int i, _, _, h, _, r => by cases h; obtain ⟨t, rfl⟩ := r; exact ⟨[], by rw [toX]; exact .int i t, List.not_mem_nil⟩
  | .str x, _, _, h, _, r => by cases h; obtain ⟨t, rfl⟩ := r; exact ⟨[], by rw [toX]; exact .str x t, List.not_mem_nil⟩
  | .lst ds, _, _, h, c, r => by
    rw [canX] at c
    cases h with
    | @lst a xs _ h1 h2 =>
      cases r
      have ha := sm _ _ h1
      obtain ⟨its, rv, hl, hz⟩ := I.list (SqL.of ha)
      obtain ⟨_, its2, n, rv2, ho⟩ := (show ObjOk X.prog X.w H s.heap a (.lst xs) from I.hok a _ ha)
      obtain ⟨as, q1, q2⟩ := DvAll.readsX I hb sm ds _ its2 h2 c rv2
      refine ⟨a :: as, by rw [toX]; exact .list ho rfl rfl (by simpa using q1), fun z => ?_⟩
      rcases List.mem_cons.mp z with z | z
      · obtain ⟨o, q⟩ := hb
        have := (I.bs _ _ q).2
        rw [z, ha] at this
        cases this
      · exact q2 z
  | .tup ds, _, _, h, c, r => by
    rw [canX] at c
    cases h with
    | tup h1 h2 =>
      cases r
      obtain ⟨its, rv, ⟨o, ho, hc, n, hd⟩, _⟩ := I.tuple (sqt_mono sm h1.sq)
      obtain ⟨as, q1, q2⟩ := DvAll.readsX I hb sm ds _ its h2 c rv
      exact ⟨as, by rw [toX]; exact .tuple ho hc hd q1, q2⟩
  | .tpw ds, _, _, h, c, r => by
    rw [canX] at c
    cases h with
    | tpw h1 h2 =>
      cases r
      obtain ⟨its, rv, ⟨o, ho, hc, n, hd⟩, _⟩ := I.tuple (sqt_mono sm h1)
      obtain ⟨as, q1, q2⟩ := DvAll.readsX I hb sm ds _ its h2 c rv
      exact ⟨as, by rw [toX]; exact .tuple ho hc hd q1, q2⟩
  | .dct kds, _, _, h, c, r => by
    rw [canX] at c
    cases h with
    | @dct a kvs _ h1 h2 =>
      cases r
      obtain ⟨_, low, us, kv, o, es, ep, ho, hex, hd, _, hp, _⟩ := (show ObjOk X.prog X.w H s.heap a (.dK kvs) from I.hok a _ (sm _ _ h1))
      obtain ⟨bs, q1, q2, q3⟩ := KvAll.readsX I hb sm kds kvs us h2 c kv
      refine ⟨a :: ([] ++ bs), ?_, fun z => ?_⟩
      · rw [toX]
        have k1 := keys_readsX (h := s.heap) hp q3
        have k2 := pairs_vals hp
        exact Reads.dict (as := []) (bs := bs) ho hex.1 hd k1 (by rw [k2]; exact q1)
      · rcases List.mem_cons.mp z with z | z
        · rw [← z] at low
          simp at low
        · exact q2 z
  | .bag, _, _, _, c, _ => by rw [canX] at c; cases c
  | .raw _, _, _, _, c, _ => by rw [canX] at c; cases c
  | .fix _, _, _, _, c, _ => by rw [canX] at c; cases c
theorem DvAll.readsX (I : Inv X pins σ H s) (hb : ∃ o, X.base.get? sysModules = some o) (sm : Sm Hh H) : ∀ (ds : List Da) (vs : List V) (us : List Value), DvAll X.K g Hh vs ds → canXs ds = true → Vals vs us → ∃ as, ReadsAll s.heap us (toXs ds) as ∧ sysModules ∉ as
  | [], _, _, h, _, r => by cases h; cases r; exact ⟨[], by rw [toXs]; exact .nil, List.not_mem_nil⟩
  | d :: ds, _, _, h, c, r => by
    rw [canXs, Bool.and_eq_true] at c
    cases h with
    | cons h1 h2 =>
      cases r with
      | cons r1 r2 =>
        obtain ⟨as, q1, n1⟩ := Dv.readsX I hb sm d _ _ h1 c.1 r1
        obtain ⟨bs, q2, n2⟩ := DvAll.readsX I hb sm ds _ _ h2 c.2 r2
        exact ⟨as ++ bs, by rw [toXs]; exact .cons q1 q2, fun z => (List.mem_append.mp z).elim n1 n2⟩
theorem KvAll.readsX (I : Inv X pins σ H s) (hb : ∃ o, X.base.get? sysModules = some o) (sm : Sm Hh H) : ∀ (kds : List (Key × Da)) (kvs : List (Key × V)) (us : List (Key × Value)), KvAll X.K g Hh kvs kds → canXk kds = true → KV kvs us → ∃ as, ReadsAll s.heap (us.map (·.2)) ((toXk kds).map (·.2)) as ∧ sysModules ∉ as ∧ us.map (·.1) = kds.map (·.1)
  | [], _, _, h, _, r => by cases h; cases r; exact ⟨[], by rw [toXk]; exact .nil, List.not_mem_nil, rfl⟩
  | (k, d) :: kds, _, _, h, c, r => by
    rw [canXk, Bool.and_eq_true] at c
    cases h with
    | cons h1 h2 =>
      cases r with
      | cons r1 r2 =>
        obtain ⟨as, q1, n1⟩ := Dv.readsX I hb sm d _ _ h1 c.1 r1.2
        obtain ⟨bs, q2, n2, e2⟩ := KvAll.readsX I hb sm kds _ _ h2 c.2 r2
        exact ⟨as ++ bs, by rw [toXk]; exact .cons q1 q2, fun z => (List.mem_append.mp z).elim n1 n2, by rw [List.map_cons, List.map_cons, e2]; exact congrArg (· :: _) r1.1.symm⟩
end
end
/-! ### repr -/
def shwOkX (x : Da) : Prop := canX x = true ∧ (toX x).showable = true ∧ (toX x).depth ≤ 60 ∧ (toX x).shown.length ≤ sizeLine
section
variable {X : Cx} {w : Wd} {e : Expr} {es : List Expr} {t : TDA} {p pos : Pos}
def rReprX (K : PySem.W.Frag) : List V → Hp → VK → Prop := fun vs H Q => ∃ (g : Option Addr) (Hh : Hp) (v : V) (d : Da), vs = [v] ∧ Sm Hh H ∧ Dv K g Hh v d ∧ shwOkX d ∧ Q (.str (toX d).shown) H
theorem cr_reprX {k : Nat} (hr : Room k X.A) (hG : X.A.guards = some []) (hb : ∃ o, X.base.get? sysModules = some o) : CallR X (.builtin "repr") (rReprX X.K) := by
  intro pins s σ H vs us Q I r h
  obtain ⟨g, Hh, v, d, rfl, sm, dv, ⟨c, sh, dep, len⟩, q⟩ := h
  obtain ⟨u, rfl, ru⟩ := vals1 r
  obtain ⟨as, rd, no⟩ := Dv.readsX I hb sm d v u dv c ru
  have un := hr.un
  have refs : ∀ a : Addr, u = .ref a → wpAny (model X.prog X.w) X.A (call (.builtin "repr") [u]) (EP X pins σ Q) X.xe s := by
    rintro a rfl
    exact repr_of_reads' (h₀ := s.heap) rd sh (fun _ => no) hG (by omega) (fun _ _ e => e) (fun h2 u2 tk keep => ⟨.str (toX d).shown, H, I.kept keep, ⟨u2, rfl⟩, q⟩) len
  have fin : ∀ y : Str, y = (toX d).shown → EP X pins σ Q (.str y s.toks) { s with toks := s.toks + 1 } := fun y z => ⟨.str (toX d).shown, H, I.tok _, ⟨s.toks, by rw [z]⟩, q⟩
  generalize toX d = D at rd sh dep len fin refs
  cases rd with
  | none => exact PySem.P.repr_of_none (fin _ (by rw [PyData.shown]))
  | bool b => exact PySem.P.repr_of_bool (fin _ (by rw [PyData.shown]))
  | int i tk => exact PySem.P.repr_of_int (by rw [PyData.showable] at sh; exact of_decide_eq_true sh) (fin _ (by rw [PyData.shown]))
  | str y tk => exact PySem.P.repr_of_str (fin _ (by rw [PyData.shown])) (by rw [PyData.shown] at len; exact len)
  | list _ _ _ _ => exact refs _ rfl
  | tuple _ _ _ _ => exact refs _ rfl
  | dict _ _ _ _ _ => exact refs _ rfl
def reprX : DB := fun ds Q => ∃ x, ds = [x] ∧ shwOkX x ∧ Q (.str (toX x).shown)
theorem ped_reprX {k : Nat} (hr : Room k X.A) (hG : X.A.guards = some []) (hb : ∃ o, X.base.get? sysModules = some o) (hm : X.mg "repr" = none) (args : PAd X w (e :: es) t) (hg : Gl X "repr" := by rfl) (he : starEach (e :: es) X.env = (false, eval e X.env) :: starEach es X.env := by rfl) (hpl : (backTo pos (starEach es X.env)).any (·.1) = false := by rfl) :
    PEd X w (.Call (.Name "repr" p) (e :: es) [] pos) (dCall reprX t) := by
  refine ped_callB (cr_reprX hr hG hb) (fun ds Q Q' q ⟨x, a, b, h⟩ => ⟨x, a, b, q _ h⟩) ?_ hm (by decide +kernel) args hg (by decide) (by decide) he hpl
  rintro g W H vs ds Q k dv ⟨x, rfl, ok, h⟩
  obtain ⟨v, rfl, dx⟩ := dv.one
  exact ⟨g, hid W H, v, x, rfl, hid_sub, dx, ok, h.now k (.str _)⟩
end
/-! ### sizes of data of all sorts -/
structure SzX (d : Da) (n c : Nat) : Prop where
  can : canX d = true
  shw : (toX d).showable = true
  dep : (toX d).depth ≤ n
  len : (toX d).shown.length ≤ c
theorem SzX.up {d : Da} {n c n' c' : Nat} (h : SzX d n c) (h1 : n ≤ n') (h2 : c ≤ c') : SzX d n' c' := ⟨h.can, h.shw, Nat.le_trans h.dep h1, Nat.le_trans h.len h2⟩
theorem SzX.ok {d : Da} {n c : Nat} (h : SzX d n c) (hn : n ≤ 60) (hc : c ≤ 16777216) : shwOkX d := ⟨h.can, h.shw, Nat.le_trans h.dep hn, Nat.le_trans h.len (by rw [sizeLine_eq]; exact hc)⟩
mutual
theorem toX_toP : ∀ d : Da, canP d = true → toX d = toP d ∧ canX d = true
  | .non, _ => ⟨by rw [toX, toP], by rw [canX]⟩
  | .bl _, _ => ⟨by rw [toX, toP], by rw [canX]⟩
  | .int _, _ => ⟨by rw [toX, toP], by rw [canX]⟩
  | .str _, _ => ⟨by rw [toX, toP], by rw [canX]⟩
  | .lst xs, h => by rw [canP] at h; obtain ⟨a, b⟩ := toXs_toPs xs h; exact ⟨by rw [toX, toP, a], by rw [canX]; exact b⟩
  | .tup xs, h => by rw [canP] at h; obtain ⟨a, b⟩ := toXs_toPs xs h; exact ⟨by rw [toX, toP, a], by rw [canX]; exact b⟩
  | .tpw xs, h => by rw [canP] at h; obtain ⟨a, b⟩ := toXs_toPs xs h; exact ⟨by rw [toX, toP, a], by rw [canX]; exact b⟩
  | .dct _, h => by rw [canP] at h; cases h
  | .bag, h => by rw [canP] at h; cases h
  | .raw _, h => by rw [canP] at h; cases h
  | .fix _, h => by rw [canP] at h; cases h
theorem toXs_toPs : ∀ ds : List Da, canPs ds = true → toXs ds = toPs ds ∧ canXs ds = true
  | [], _ => ⟨by rw [toXs, toPs], by rw [canXs]⟩
  | d :: ds, h => by
    rw [canPs, Bool.and_eq_true] at h
    obtain ⟨a, b⟩ := toX_toP d h.1
    obtain ⟨c, e⟩ := toXs_toPs ds h.2
    exact ⟨by rw [toXs, toPs, a, c], by rw [canXs, b, e]; rfl⟩
end
theorem Sz.x {d : Da} {n c : Nat} (h : Sz d n c) : SzX d n c := by
  obtain ⟨a, b⟩ := toX_toP d h.can
  exact ⟨b, by rw [a]; exact h.shw, by rw [a]; exact h.dep, by rw [a]; exact h.len⟩
theorem szXs {ds : List Da} {n c : Nat} : (∀ d ∈ ds, SzX d n c) → canXs ds = true ∧ PyData.showableAll (toXs ds) = true ∧ PyData.depthAll (toXs ds) ≤ n ∧ ((PyData.shownAll (toXs ds)).map (·.length)).sum ≤ ds.length * c ∧ (PyData.shownAll (toXs ds)).length = ds.length := by
  induction ds with
  | nil => intro _; refine ⟨by rw [canXs], by rw [toXs, PyData.showableAll], by rw [toXs, PyData.depthAll]; exact Nat.zero_le _, by rw [toXs, PyData.shownAll]; exact Nat.zero_le _, by rw [toXs, PyData.shownAll]; rfl⟩
  | cons d ds ih =>
    intro h
    obtain ⟨a1, a3, a4, a5, a6⟩ := ih fun e he => h e (List.mem_cons_of_mem _ he)
    have hd := h d List.mem_cons_self
    refine ⟨by rw [canXs, hd.can, a1]; rfl, by rw [toXs, PyData.showableAll, hd.shw, a3]; rfl, by rw [toXs, PyData.depthAll]; exact Nat.max_le.mpr ⟨hd.dep, a4⟩, ?_, by rw [toXs, PyData.shownAll, List.length_cons, List.length_cons, a6]⟩
    rw [toXs, PyData.shownAll, List.map_cons, List.sum_cons, List.length_cons, Nat.add_mul, Nat.one_mul]
    have := hd.len
    omega
theorem szX_lst {ds : List Da} {n c : Nat} (h : ∀ d ∈ ds, SzX d n c) : SzX (.lst ds) (n + 1) (ds.length * (c + 2) + 3) := by
  obtain ⟨a1, a3, a4, a5, a6⟩ := szXs h
  refine ⟨by rw [canX]; exact a1, by rw [toX, PyData.showable]; exact a3, by rw [toX, PyData.depth]; omega, ?_⟩
  rw [toX, PyData.shown]
  have q := listText_len_le (PyData.shownAll (toXs ds))
  rw [a6] at q
  rw [Nat.mul_add]
  omega
theorem szX_tup {ds : List Da} {n c : Nat} (h : ∀ d ∈ ds, SzX d n c) : SzX (.tup ds) (n + 1) (ds.length * (c + 2) + 3) := by
  obtain ⟨a1, a3, a4, a5, a6⟩ := szXs h
  refine ⟨by rw [canX]; exact a1, by rw [toX, PyData.showable]; exact a3, by rw [toX, PyData.depth]; omega, ?_⟩
  rw [toX, PyData.shown]
  have q := tupleText_len_le (PyData.shownAll (toXs ds))
  rw [a6] at q
  rw [Nat.mul_add]
  omega
theorem szX_int {i : Int} (h : i.natAbs.log2 < 1920) : SzX (.int i) 0 1921 := (sz_int h).x
theorem szXk {kvs : List (Key × Da)} {n c c' : Nat} : (∀ p ∈ kvs, SzX (kD p.1) n c ∧ SzX p.2 n c') → canXk kvs = true ∧ PyData.showableKv (toXk kvs) = true ∧ PyData.depthKv (toXk kvs) ≤ n ∧ ((PyData.shownKv (toXk kvs)).map (·.length)).sum ≤ kvs.length * (c + 2 + c') ∧ (PyData.shownKv (toXk kvs)).length = kvs.length := by
  induction kvs with
  | nil => intro _; refine ⟨by rw [canXk], by rw [toXk, PyData.showableKv], by rw [toXk, PyData.depthKv]; exact Nat.zero_le _, by rw [toXk, PyData.shownKv]; exact Nat.zero_le _, by rw [toXk, PyData.shownKv]; rfl⟩
  | cons p kvs ih =>
    intro h
    obtain ⟨k, d⟩ := p
    obtain ⟨a1, a3, a4, a5, a6⟩ := ih fun e he => h e (List.mem_cons_of_mem _ he)
    have hk : SzX (kD k) n c := (h (k, d) List.mem_cons_self).1
    have hd : SzX d n c' := (h (k, d) List.mem_cons_self).2
    have ek : keyP k = toX (kD k) := by
      cases k with
      | inl i => rw [kD, toX]; rfl
      | inr x => rw [kD, toX]; rfl
    refine ⟨by rw [canXk, hd.can, a1]; rfl, by rw [toXk, PyData.showableKv, ek, hk.shw, hd.shw, a3]; rfl, ?_, ?_, by rw [toXk, PyData.shownKv, List.length_cons, List.length_cons, a6]⟩
    · rw [toXk, PyData.depthKv, ek]
      have := hk.dep
      have := hd.dep
      omega
    · rw [toXk, PyData.shownKv, List.map_cons, List.sum_cons, List.length_cons, Nat.add_mul, Nat.one_mul, ek]
      have h1 := hk.len
      have h2 := hd.len
      have h3 : ((toX (kD k)).shown ++ (": " : Str) ++ (toX d).shown).length = (toX (kD k)).shown.length + 2 + (toX d).shown.length := by
        rw [strLen_append, strLen_append]; rfl
      omega
theorem szX_dct {kvs : List (Key × Da)} {n c c' : Nat} (h : ∀ p ∈ kvs, SzX (kD p.1) n c ∧ SzX p.2 n c') : SzX (.dct kvs) (n + 1) (kvs.length * (c + c' + 4) + 2) := by
  obtain ⟨a1, a3, a4, a5, a6⟩ := szXk h
  refine ⟨by rw [canX]; exact a1, by rw [toX, PyData.showable]; exact a3, by rw [toX, PyData.depth]; omega, ?_⟩
  rw [toX, PyData.shown]
  have q := StrLaws.join_length_le ", " (PyData.shownKv (toXk kvs))
  rw [a6] at q
  have e : (dictText (PyData.shownKv (toXk kvs))).length = 1 + (Str.join ", " (PyData.shownKv (toXk kvs))).length + 1 := by
    unfold dictText
    rw [strLen_append, strLen_append]
    rfl
  have e2 : (", " : Str).length = 2 := rfl
  rw [e2] at q
  have e3 : kvs.length * (c + c' + 4) = kvs.length * (c + 2 + c') + kvs.length * 2 := by rw [← Nat.mul_add]; congr 1; omega
  omega
end Pd
/-! Lists of dicts compared; dicts within emptied; defs that return new things. -/
namespace Pd
open PySem PySem.Spec PyProof.Rows L2
/-! ### == of lists of dicts -/
def DDA : Eqv := fun x y H => ∃ a b ks ls, x = .ref a ∧ y = .ref b ∧ H a = some (.dK ks) ∧ H b = some (.dK ls) ∧ ks.length = ls.length ∧ ∀ p ∈ ks, valV ls p.1 = some p.2 ∧ flatB p.2 = true
theorem mon_dda : Mon DDA := fun x y H H' e ⟨a, b, ks, ls, h1, h2, h3, h4, h5⟩ => ⟨a, b, ks, ls, h1, h2, e _ _ h3, e _ _ h4, h5⟩
theorem rcG_dda {X : Cx} : RcG X 0 DDA := by
  intro A pins s σ H x y u v sb I rx ry h
  obtain ⟨a, b, ks, ls, rfl, rfl, ea, eb, hlen, hp⟩ := h
  obtain rfl : u = Value.ref a := rx
  obtain rfl : v = Value.ref b := ry
  obtain ⟨_, ya, va, ra, da⟩ := (show ObjOk X.prog X.w H s.heap a (.dK ks) from I.hok a _ ea)
  obtain ⟨_, yb, vb, rb, db⟩ := (show ObjOk X.prog X.w H s.heap b (.dK ls) from I.hok b _ eb)
  have hl : va.length = vb.length := by rw [← ra.length, ← rb.length]; exact hlen
  exact PySem.W.keq_eq (knd := mixKind X.prog X.w) (r := true) ya yb da db sb.room.units0 (fun _ => hits_all rb ra hp) ⟨by simp [hl], H, I, Ext.rfl'⟩
theorem eqG_dda {X : Cx} : EqG X 0 DDA := rcG_dda.eqG fun _ _ _ ⟨a, b, _, _, h1, h2, _⟩ => ⟨a, b, h1, h2⟩
/-- what is seen at once in a value -/
def flatD : Da → Bool
  | .non => true
  | .bl _ => true
  | .int _ => true
  | .str _ => true
  | _ => false
/-- a dict of such, no key twice -/
def plainK (kvs : List (Key × Da)) : Prop := (kvs.map (·.1)).Nodup ∧ ∀ p ∈ kvs, flatD p.2 = true
theorem flat_one {K : PySem.W.Frag} {g : Option Addr} {H : Hp} {v u : V} {d : Da} (h : flatD d = true) (a : Dv K g H v d) (b : Dv K g H u d) : v = u ∧ flatB v = true := by
  cases d with
  | non => cases a; cases b; exact ⟨rfl, rfl⟩
  | bl x => cases a; cases b; exact ⟨rfl, rfl⟩
  | int x => cases a; cases b; exact ⟨rfl, rfl⟩
  | str x => cases a; cases b; exact ⟨rfl, rfl⟩
  | _ => cases h
theorem flat_kvs {K : PySem.W.Frag} {g : Option Addr} {H : Hp} : ∀ {kvs : List (Key × Da)} {us vs : List (Key × V)}, (∀ p ∈ kvs, flatD p.2 = true) → KvAll K g H us kvs → KvAll K g H vs kvs → us = vs ∧ ∀ p ∈ us, flatB p.2 = true
  | _, _, _, _, .nil, .nil => ⟨rfl, fun p h => by cases h⟩
  | _, _, _, h, .cons a t, .cons b u => by
    obtain ⟨e, f⟩ := flat_one (h _ List.mem_cons_self) a b
    obtain ⟨e2, f2⟩ := flat_kvs (fun p hp => h p (List.mem_cons_of_mem _ hp)) t u
    refine ⟨by rw [e, e2], fun p hp => ?_⟩
    rcases List.mem_cons.mp hp with z | z
    · rw [z]; exact f
    · exact f2 p z
theorem dda_of {K : PySem.W.Frag} {g : Option Addr} {Hh H : Hp} (sm : Sm Hh H) {v u : V} {kvs : List (Key × Da)} (h : plainK kvs) (a : Dv K g Hh v (.dct kvs)) (b : Dv K g Hh u (.dct kvs)) : DDA v u H := by
  cases a with
  | @dct p us _ a1 a2 =>
    cases b with
    | @dct q vs _ b1 b2 =>
      obtain ⟨e, f⟩ := flat_kvs h.2 a2 b2
      subst e
      refine ⟨p, q, us, us, rfl, rfl, sm _ _ a1, sm _ _ b1, rfl, fun y hy => ⟨val_nodup (by rw [a2.keys]; exact h.1) y hy, f y hy⟩⟩
theorem prs_of {K : PySem.W.Frag} {g : Option Addr} {Hh H : Hp} (sm : Sm Hh H) : ∀ {ds : List Da} {xs ys : List V}, (∀ d ∈ ds, ∃ kvs, d = .dct kvs ∧ plainK kvs) → DvAll K g Hh xs ds → DvAll K g Hh ys ds → Prs DDA xs ys H
  | _, _, _, _, .nil, .nil => Prs.nil
  | _, _, _, h, .cons a t, .cons b u => by
    obtain ⟨kvs, rfl, hk⟩ := h _ List.mem_cons_self
    exact Prs.cons (dda_of sm hk a b) (prs_of sm (fun d hd => h d (List.mem_cons_of_mem _ hd)) t u)
/-- == : of lists, tuples and the like; of one dict and the same; of lists of the same dicts -/
def eqX : DD := fun x y Q => eqD false x y Q ∨ (∃ kvs, x = .dct kvs ∧ y = .dct kvs ∧ plainK kvs ∧ Q (.bl true)) ∨ ∃ ds, x = .lst ds ∧ y = .lst ds ∧ (∀ d ∈ ds, ∃ kvs, d = .dct kvs ∧ plainK kvs) ∧ Q (.bl true)
theorem eqX_mo : Mo2 eqX := fun x y Q Q' q h => h.imp (eqD_mo x y Q Q' q) fun h => h.imp (fun ⟨k, a, b, c, z⟩ => ⟨k, a, b, c, q _ z⟩) fun ⟨k, a, b, c, z⟩ => ⟨k, a, b, c, q _ z⟩
def rEqX (K : PySem.W.Frag) : R2 := fun x y H Q => (rEqD K x y H Q ∨ rEqG DDA x y H Q) ∨ rEqG (DList DDA) x y H Q
theorem extL {g : Option Addr} {H H' : Hp} (e : L2.Ext H H') : Ext g H H' := Ext.of e
section
variable {X : Cx} {w : Wd} {a b : Expr} {ta tb : TDE} {pos : Pos}
theorem op_eqX {k : Nat} (hr : Room (k + 1) X.A) : OpR X (compareOp .Eq) (rEqX X.K) := ((op_eqD hr.units).or (op_eqG rcG_dda (hr.mono (by omega)))).or (op_eqG (rcG_list mon_dda eqG_dda) (hr.mono (by omega)))
theorem eqX_br : Br2 X.K (rEqX X.K) eqX := by
  intro g W H v u x y Q k dx dy h
  rcases h with h | ⟨kvs, rfl, rfl, hk, z⟩ | ⟨ds, rfl, rfl, hk, z⟩
  · exact .inl (.inl (eqD_br g W H v u x y Q k dx dy h))
  · exact .inl (.inr ⟨dda_of hid_sub hk dx dy, fun H' e => z _ H' (extL e) (k.same e) (.bl _)⟩)
  · cases dx with
    | lst a1 a2 =>
      cases dy with
      | lst b1 b2 =>
        exact .inr ⟨⟨_, _, _, _, rfl, rfl, (hid_some a1).2, (hid_some b1).2, prs_of hid_sub hk a2 b2⟩, fun H' e => z _ H' (extL e) (k.same e) (.bl _)⟩
theorem ped_eqX {k : Nat} (hr : Room (k + 1) X.A) (ha : PEd X w a ta) (hb : PEd X w b tb) : PEd X w (.Compare a [.Eq] [b] pos) (dOp eqX ta tb) := ped_cmp (op_eqX hr) (nobehind _ (by decide) (by decide)) eqX_mo eqX_br ha hb
end
/-! ### for x in xs: x.clear(), of dicts -/
def dForClr (i j : Nat) : TDS := fun E r => (i ≠ j ∧ j < r.length) ∧ ∃ ds, r[i]? = some (.reg ds) ∧ (∀ d ∈ ds, ∃ kvs, d = .dct kvs) ∧ ∀ xs : List V, xs.length = ds.length → E.nx ((r.set i (.reg (xs.map .raw))).set j .no)
section
variable {X : Cx} {w : Wd}
theorem psd_forClr {i j : Nat} {x y : Str} {py qx qy apos cpos epos fpos : Pos} (hN : X.N.Nodup) (hi : X.N[i]? = some x := by rfl) (hj : X.N[j]? = some y := by rfl)
    (hvi : Vis X.env.scope x := by first | exact Or.inl rfl | exact Or.inr (Or.inl rfl) | exact Or.inr (Or.inr rfl)) (hvj : Vis X.env.scope y := by first | exact Or.inl rfl | exact Or.inr (Or.inl rfl) | exact Or.inr (Or.inr rfl)) (hlj : Loc X.env.scope y := by first | exact .inl rfl | exact .inr rfl)
    (hfj : X.fn y = true ∨ X.env.scope.names.lookup y = some .local := by first | exact .inl rfl | exact .inr rfl) (hd : (x == ("__debug__" : Str)) = false := by decide) (hcd : (x == ("__classdict__" : Str)) = false := by decide) (hd' : (y == ("__debug__" : Str)) = false := by decide) (hcd' : (y == ("__classdict__" : Str)) = false := by decide)
    (hbase : attributeBase (.Name y qy) "clear" X.env (eval (.Name y qy) X.env) = eval (.Name y qy) X.env := by rfl) (hline : (apos.endLine == cpos.line) = true := by rfl)
    (hs : swapsWith (.Call (.Attribute (.Name y qy) "clear" apos) [] [] cpos) none epos.line X.env = pure false := by rfl)
    (hp : PassesOwn (model X.prog X.w) X.A X.env X.xe := by exact PassesOwn.never) (hc : X.calm = true := by rfl) (hs2 : ∀ z, foldedSetIterable (.Name x qx) X.env z = pure z := by intro _; rfl) :
    PSd X w (.For (.Name y py) (.Name x qx) [.Expr (.Call (.Attribute (.Name y qy) "clear" apos) [] [] cpos) epos] [] fpos) (dForClr i j) := by
  refine ⟨weS (ps_for hp hc (pi_list (pv i hi hvi hd hcd)) (pg_name (i := j) hN hj hlj hfj) (pss_one (ps_expr (pe_dclear (pv j hj hvj hd' hcd') hbase hline) hs)) hs2) ?_, fun E E' r l ⟨h0, ds, h1, h2, h4⟩ => ⟨h0, ds, h1, h2, fun xs hx => l.nx _ (h4 xs hx)⟩⟩
  rintro E σ H ⟨W, own, r, S, ⟨hij, hjl⟩, ds, hr, hel, h⟩
  obtain ⟨v, hv, a, xs, o1, rfl, o3, o4⟩ := S.sl i _ hr (fun z => by cases z)
  have lx : xs.length = ds.length := o4.len
  refine ⟨.ref a, hv, a, rfl, ⟨xs, SqL.of o3⟩, ?_⟩
  have S0 : Stt X.K w W own ((r.set i (.reg (xs.map .raw))).set j .no) σ H := (S.tell (s := .reg (xs.map .raw)) fun _ => ⟨.ref a, hv, a, xs, o1, rfl, o3, raws xs⟩).drop j
  have inn : ∀ x ∈ xs, ∃ q ys, x = .ref q ∧ own i q ∧ q ≠ a ∧ H q = some (.dK ys) := by
    intro x hx
    obtain ⟨n, hn⟩ := List.getElem?_of_mem hx
    obtain ⟨d, hd, dv⟩ := o4.ta hn
    obtain ⟨kvs, rfl⟩ := hel d (List.mem_of_getElem? hd)
    cases dv with
    | @dct q ys _ b1 b2 =>
      have ne : q ≠ a := fun z => by rw [z, cutAt_same] at b1; cases b1
      rw [cutAt_ne ne] at b1
      by_cases oq : own i q
      · rw [vis_own oq] at b1
        exact ⟨q, ys, rfl, oq, ne, b1⟩
      · rw [vis_not oq] at b1
        have := (nom_some b1).2
        cases this
  refine ⟨fun k m σ' H' => m = xs.length - k ∧ k ≤ xs.length ∧ Stt X.K w W own ((r.set i (.reg (xs.map .raw))).set j .no) σ' H' ∧ Grow w.g W H W H' ∧ H' a = some (.lst xs) ∧ σ'[i]? = some (some (.ref a)) ∧ ∀ x ∈ xs, ∃ q ys, x = .ref q ∧ own i q ∧ q ≠ a ∧ H' q = some (.dK ys),
    ⟨xs.length, by simp, Nat.zero_le _, S0, .refl, o3, hv, inn⟩, ?_⟩
  rintro k m σ' H' ⟨rfl, hk', S', gr, ha, hva, inn'⟩
  have sq : SqL X.K H' a xs := SqL.of ha
  by_cases hl : k < xs.length
  · refine .inr ⟨⟨xs, xs[k], sq, List.getElem?_eq_getElem hl⟩, fun σ2 H2 => Stt X.K w W own ((r.set i (.reg (xs.map .raw))).set j .no) σ2 H2 ∧ Grow w.g W H W H2 ∧ H2 a = some (.lst xs) ∧ σ2[i]? = some (some (.ref a)) ∧ ∀ x ∈ xs, ∃ q ys, x = .ref q ∧ own i q ∧ q ≠ a ∧ H2 q = some (.dK ys), fun σ2 H2 z => ⟨xs.length - (k + 1), by omega, rfl, by omega, z⟩, fun x H2 y => ?_⟩
    obtain ⟨rfl, y⟩ := y
    have hx := y xs sq
    obtain ⟨q, ys, rfl, oq, ne, hq⟩ := inn' x (List.mem_of_getElem? hx)
    have S2 := S'.forget j (some (.ref q))
    rw [List.set_set] at S2
    have lj : j < σ'.length := by
      have h1 := S'.len
      rw [List.length_set, List.length_set] at h1
      rw [← h1]
      exact hjl
    have er : ((((r.set i (.reg (xs.map .raw))).set j .no)).set i (.reg (xs.map .raw)) : En) = (r.set i (.reg (xs.map .raw))).set j .no := by
      rw [List.set_comm _ _ (Ne.symm hij), List.set_set]
    have told : ∃ v, (σ'.set j (some (.ref q)))[i]? = some (some v) ∧ SlD X.K w.g W own (upd H2 q (.dK [])) i v (.reg (xs.map .raw)) :=
      ⟨.ref a, by rw [List.getElem?_set_ne (Ne.symm hij)]; exact hva, a, xs, o1, rfl, by rw [upd_ne (Ne.symm ne)]; exact ha, raws xs⟩
    obtain ⟨S3, g3⟩ := S2.putOwn (o := .dK []) (s := .reg (xs.map .raw)) oq (.inr ⟨_, upd_same⟩) fun _ => told
    rw [er] at S3
    refine ⟨.ref q, by rw [List.getElem?_set_self lj], .inr (.inr (.inl ⟨rfl, .inl ⟨ys, hq⟩⟩)), q, ys, rfl, rfl, hq, S3, gr.trans g3, by rw [upd_ne (Ne.symm ne)]; exact ha, by rw [List.getElem?_set_ne (Ne.symm hij)]; exact hva, fun x hx => ?_⟩
    obtain ⟨q', ys', e1, e2, e3, e4⟩ := inn' x hx
    by_cases z : q' = q
    · subst z
      exact ⟨q', _, e1, e2, e3, upd_same⟩
    · exact ⟨q', ys', e1, e2, e3, by rw [upd_ne z]; exact e4⟩
  · exact .inl ⟨⟨xs, sq, by omega⟩, h xs lx W own σ' H' gr S'⟩
end
end Pd
/-! Defs that return a new value, or a new list of new values. -/
namespace Pd
open PySem PySem.Spec PyProof.Rows L2
def liV (K : PySem.W.Frag) (p : DSp) : Sp := fun vs H Q _ => ∃ g W ds, OkW K g W H ∧ DvAll K g (hid W H) vs ds ∧ p ds (AftN K g W H Q)
def liR (K : PySem.W.Frag) (p : DSpF) : Sp := fun vs H Q _ => ∃ g W ds, OkW K g W H ∧ DvAll K g (hid W H) vs ds ∧ p ds (NewR K g W H Q)
structure CalldV (P : Program) (wd : World) (K : PySem.W.Frag) (mg : Str → Option Value) (base : Heap) (k : Nat) (x : Str) (ps : List Str) (p : DSp) : Prop where
  ex : ∃ f fd, FnG P wd K mg base CX0 k f fd ps (liV K p) ∧ mg x = some (.ref f) ∧ PySem.W.keepIn K (.ref f) = true ∧ Binds K fd ps []
  mp : MoP p
structure CalldR (P : Program) (wd : World) (K : PySem.W.Frag) (mg : Str → Option Value) (base : Heap) (k : Nat) (x : Str) (ps : List Str) (p : DSpF) : Prop where
  ex : ∃ f fd, FnG P wd K mg base CX0 k f fd ps (liR K p) ∧ mg x = some (.ref f) ∧ PySem.W.keepIn K (.ref f) = true ∧ Binds K fd ps []
  mp : MoPF p
section
variable {P : Program} {wd : World} {K : PySem.W.Frag} {mg : Str → Option Value} {base : Heap}
theorem CalldV.up {j k : Nat} {x : Str} {ps : List Str} {p : DSp} (c : CalldV P wd K mg base j x ps p) (h : j ≤ k) : CalldV P wd K mg base k x ps p := by
  obtain ⟨⟨f, fd, F, a, b, d⟩, mp⟩ := c
  exact ⟨⟨f, fd, F.up h, a, b, d⟩, mp⟩
theorem CalldR.up {j k : Nat} {x : Str} {ps : List Str} {p : DSpF} (c : CalldR P wd K mg base j x ps p) (h : j ≤ k) : CalldR P wd K mg base k x ps p := by
  obtain ⟨⟨f, fd, F, a, b, d⟩, mp⟩ := c
  exact ⟨⟨f, fd, F.up h, a, b, d⟩, mp⟩
theorem AftN.aft {g : Option Addr} {W : Addr → Bool} {H : Hp} {Q : VK} {d : Da} (h : Aft K g W H Q d) : AftN K g W H Q d := fun v H' e k dv => h v H' e k (Dv.mono newM_le _ _ dv)
theorem NewR.aft {g : Option Addr} {W : Addr → Bool} {H : Hp} {Q : VK} {ds : List Da} (h : Aft K g W H Q (.lst ds)) : NewR K g W H Q ds := fun p xs H1 e1 k1 np dv => by
  obtain ⟨n1, n2, n3, n4⟩ := k1.new (o := .lst xs) np
  exact h _ _ (e1.trans n1) n2 (.lst n4 (DvAll.mono (fun a o z => n3 a o (newM_le a o z)) _ _ dv))
/-- as data -/
theorem CalldV.dat {k : Nat} {x : Str} {ps : List Str} {p : DSp} (c : CalldV P wd K mg base k x ps p) : Calld P wd K mg base k x ps p := by
  obtain ⟨⟨f, fd, F, a, b, d⟩, mp⟩ := c
  exact ⟨⟨f, fd, ⟨fun vs H Q E ⟨g, W, ds, k1, dv, h⟩ => F.many vs H Q E ⟨g, W, ds, k1, dv, mp _ _ _ (fun _ => AftN.aft) h⟩, fun A outer s0 H args us vs Q E room hG z bd rel ⟨g, W, ds, k1, dv, h⟩ => F.goes A outer s0 H args us vs Q E room hG z bd rel ⟨g, W, ds, k1, dv, mp _ _ _ (fun _ => AftN.aft) h⟩⟩, a, b, d⟩, mp⟩
theorem CalldR.dat {k : Nat} {x : Str} {ps : List Str} {p : DSpF} (c : CalldR P wd K mg base k x ps p) : Calld P wd K mg base k x ps (fun ds Q => p ds fun xs => Q (.lst xs)) := by
  obtain ⟨⟨f, fd, F, a, b, d⟩, mp⟩ := c
  exact ⟨⟨f, fd, ⟨fun vs H Q E ⟨g, W, ds, k1, dv, h⟩ => F.many vs H Q E ⟨g, W, ds, k1, dv, mp _ _ _ (fun _ => NewR.aft) h⟩, fun A outer s0 H args us vs Q E room hG z bd rel ⟨g, W, ds, k1, dv, h⟩ => F.goes A outer s0 H args us vs Q E room hG z bd rel ⟨g, W, ds, k1, dv, mp _ _ _ (fun _ => NewR.aft) h⟩⟩, a, b, d⟩, fun ds Q Q' q h => mp _ _ _ (fun xs => q _) h⟩
theorem NewR.then {g : Option Addr} {W : Addr → Bool} {H H' : Hp} {Q : VK} {ds : List Da} (h : NewR K g W H Q ds) (e : Ext g H H') (k : OkW K g W H') : NewR K g W H' Q ds := fun p xs H1 e1 k1 np dv => h p xs H1 (e.trans e1) k1 np (DvAll.mono (newM_up (fun a ha => e.none k ha) fun _ _ z => z) _ _ dv)
end
section
variable {X : Cx} {w : Wd} {e : Expr} {es : List Expr} {pos p : Pos}
theorem pvd_f {x : Str} {k : Nat} {ps : List Str} {sp : DSp} {t : TDA} (c : CalldV X.prog X.w X.K X.mg X.base k x ps sp) (room : Room k X.A) (hG : X.A.guards = some []) (args : PAd X w (e :: es) t) (gl : Gl X x := by rfl) (nd : (x == ("__debug__" : Str)) = false := by decide)
    (st : starEach (e :: es) X.env = (false, eval e X.env) :: starEach es X.env := by rfl) (bk : (backTo pos (starEach es X.env)).any (·.1) = false := by rfl) : PVd X w (.Call (.Name x p) (e :: es) [] pos) (dCall sp t) := by
  obtain ⟨⟨f, fd, F, a, b, d⟩, mp⟩ := c
  refine ⟨weE (pe_callG (E := E0) F room hG gl a b d .nil pass0 args.pa nd st bk) ?_, fun r Q Q' q h => args.mo _ _ _ (fun ds z => mp _ _ _ q z) h⟩
  rintro σ H Q ⟨W, own, r, S, h⟩
  refine goA args S h fun xs vs H1 e1 k1 d1 p => ?_
  rw [List.append_nil]
  exact ⟨w.g, W, xs, k1, d1, mp _ _ _ (fun d q => AftN.then q e1 k1) p⟩
theorem pnd_f {x : Str} {k : Nat} {ps : List Str} {sp : DSpF} {t : TDA} (c : CalldR X.prog X.w X.K X.mg X.base k x ps sp) (room : Room k X.A) (hG : X.A.guards = some []) (args : PAd X w (e :: es) t) (gl : Gl X x := by rfl) (nd : (x == ("__debug__" : Str)) = false := by decide)
    (st : starEach (e :: es) X.env = (false, eval e X.env) :: starEach es X.env := by rfl) (bk : (backTo pos (starEach es X.env)).any (·.1) = false := by rfl) : PNd X w (.Call (.Name x p) (e :: es) [] pos) (dCallF sp t) := by
  obtain ⟨⟨f, fd, F, a, b, d⟩, mp⟩ := c
  refine ⟨weE (pe_callG (E := E0) F room hG gl a b d .nil pass0 args.pa nd st bk) ?_, fun r Q Q' q h => args.mo _ _ _ (fun ds z => mp _ _ _ q z) h⟩
  rintro σ H Q ⟨W, own, r, S, h⟩
  refine goA args S h fun xs vs H1 e1 k1 d1 p => ?_
  rw [List.append_nil]
  exact ⟨w.g, W, xs, k1, d1, mp _ _ _ (fun d q => NewR.then q e1 k1) p⟩
/-! ### a written list of new values -/
def AftNA (K : PySem.W.Frag) (g : Option Addr) (W : Addr → Bool) (H : Hp) (Q : List V → Hp → Prop) (ds : List Da) : Prop := ∀ xs H', Ext g H H' → OkW K g W H' → DvAll K g (newM H (hid W H')) xs ds → Q xs H'
structure PNA (X : Cx) (w : Wd) (es : List Expr) (t : TDA) : Prop where
  pa : PA X es (fun σ H Q => ∃ W own r, Stt X.K w W own r σ H ∧ t r (AftNA X.K w.g W H Q))
  mo : ∀ r Q Q', (∀ ds, Q ds → Q' ds) → t r Q → t r Q'
theorem pna_nil : PNA X w [] dNil := by
  refine ⟨weA pa_nil ?_, fun r Q Q' q h => q _ h⟩
  rintro σ H Q ⟨W, own, r, S, h⟩
  exact h [] H Ext.refl S.ok .nil
theorem pna_cons {t : TDE} {u : TDA} (h1 : PVd X w e t) (h2 : PNA X w es u) (he : starEach (e :: es) X.env = (false, eval e X.env) :: starEach es X.env := by rfl) : PNA X w (e :: es) (dCons t u) := by
  refine ⟨weA (pa_cons h1.pe h2.pa he) ?_, fun r Q Q' q h => h1.mo _ _ _ (fun d => h2.mo _ _ _ fun ds => q _) h⟩
  rintro σ H Q ⟨W, own, r, S, h⟩
  refine ⟨W, own, r, S, h1.mo _ _ _ (fun d z v H1 e1 k1 d1 => ?_) h⟩
  refine ⟨W, own, r, S.ext e1 k1, h2.mo _ _ _ (fun ds z xs H2 e2 k2 d2 => ?_) z⟩
  refine z _ H2 (e1.trans e2) k2 (.cons (Dv.mono (newM_up (fun a ha => ha) (e2.hid k1.gW)) _ _ d1) (DvAll.mono (newM_up (fun a ha => e1.none k1 ha) fun _ _ z => z) _ _ d2))
theorem pnd_lst {t : TDA} (h : PNA X w es t) : PNd X w (.List es pos) (fun r Q => t r fun ds => ds.length ≤ sizeLine ∧ Q ds) := by
  refine ⟨weE (pe_lst h.pa) ?_, fun r Q Q' q z => h.mo _ _ _ (fun ds z => ⟨z.1, q _ z.2⟩) z⟩
  rintro σ H Q ⟨W, own, r, S, z⟩
  refine ⟨W, own, r, S, h.mo _ _ _ (fun ds z xs H1 e1 k1 d1 => ?_) z⟩
  exact ⟨by rw [d1.len]; exact z.1, fun p np => z.2 p xs H1 e1 k1 np d1⟩
end
/-! ### a def whose body returns a new value at once -/
theorem defV1 {P : Program} {wd : World} {K : PySem.W.Frag} {mg : Str → Option Value} {base : Heap} {x : Str} {st : Stmt} {N ps : List Str} {k : Nat} {p : DSp} {e : Expr} {pos : Pos} (At : DefAt K mg x st ps) (one : defBody st = [.Return (some e) pos])
    (S : FnScope N ps (defScope st)) (len : ∀ ds Q, p ds Q → ds.length = ps.length) (mp : MoP p)
    (inside : ∀ (f : Addr) (cdv : Value) (A : Around) (outer : List Env) (s0 : Shared) (H : Hp) (E : XK) (w : Wd) (ds : List Da) (Q : Da → Prop), Room k (A.deeper (envOfC x (defScope st) s0.heap.objs.size f cdv)) → A.guards = some [] → p ds Q →
      ∃ t, PVd (cxOf CX0 P wd K mg base N x (defScope st) f cdv A outer s0 H E).nox w e t ∧ t (startD N ds) Q) :
    CalldV P wd K mg base (k + 1) x ps p := by
  obtain ⟨f, fd, F, a, b⟩ := At.ex
  refine ⟨⟨f, fd, FunG.ok F S ?_ ?_, a, F.kp, b⟩, mp⟩
  · rintro vs H Q E ⟨g, W, ds, k1, dv, h⟩
    rw [dv.len]
    exact len _ _ h
  · rintro cdv A outer s0 H vs Q E room hG ⟨g, W, ds, k1, dv, h⟩
    obtain ⟨t, ht, hq⟩ := inside f cdv A outer s0 H E ⟨H, g, W⟩ ds _ room hG h
    refine ⟨_, by rw [one]; exact pss_one (ps_ret ht.pe), ?_⟩
    exact ⟨W, fun _ _ => False, startD N ds, start_stt k1 dv, hq⟩
end Pd
/-! The head of a law, the base told to hold the modules' dict. -/
namespace Pd
open PySem PySem.Spec PyProof.Rows L2
theorem _root_.PySem.Heap.NoSeer.mods' {h : Heap} (x : h.NoSeer) : ∃ mm, h.Ns sysModules mm := by
  obtain ⟨mm, a, _⟩ := x.mods
  exact ⟨mm, a⟩
section
variable {P : Program} {wd : World} {K : PySem.W.Frag} {mg mb : Str → Option Value} {k : Nat} {fa a : Addr} {fd : FuncData} {x : Str} {sp : Sp} {s1 : Shared} {us : List Value} {ns : List Int}
theorem top_in2 (inK : K.In s1.heap) (gl : s1.heap.Ns mainGlobals mg) (bu : s1.heap.Ns builtinsNs mb) (bo : ∀ y : Str, y ≠ "__name__" → mb y = bootBuiltins y) (nl : s1.heap.NoLimit) (g0 : s1.gens = #[])
    (at_a : s1.heap.get? a = some { cls := .type "list", data := .seq us.toArray }) (room : Room k callerA)
    (sy : ∃ mm, s1.heap.Ns sysModules mm) (F : ∀ base : Heap, K.In base → base.Ns mainGlobals mg → (∃ o, base.get? sysModules = some o) → FnG P wd K mg base CX0 k fa fd [x] sp) (bd : ∀ (s : Shared) (u : Value), BindsTo s fd ⟨[u], []⟩ [(x, u)])
    (pre : ∀ H : Hp, SqL K H a (ns.map V.int) → sp [.ref a] H (fun v _ => v = .bl true) fun _ _ _ => False)
    (H : Hp) (script : SqL K H a (ns.map V.int)) (fits : HOk P wd H s1.heap) (sole : ∀ b u, H b = some u → b = a ∧ K.lookup a = none ∧ ∃ o xs, u = .frz o (.lst xs)) :
    codeAny (model P wd) callerA (.call (.ref fa) ⟨[.ref a], []⟩) (Told s1) s1 := by
  have plain : ∀ {b : Addr}, b ≠ a → H b = none := fun {b} n => by
    cases e : H b with
    | none => rfl
    | some u => exact absurd (sole b u e).1 n
  have seen : ∀ {b : Addr} {m : Str → Option Value}, s1.heap.Ns b m → (hidT s1.heap H).Ns b m := by
    rintro b m ⟨o, es, ep, at_b, isd, rest⟩
    refine ⟨o, es, ep, hidT_get at_b (plain fun z => ?_), isd, rest⟩
    rw [z] at at_b
    have eo := Option.some.inj (at_a.symm.trans at_b)
    rw [← eo] at isd
    cases isd
  have inB : K.In (hidT s1.heap H) := fun b o at_b => by
    refine hidT_get (inK b o at_b) ?_
    cases e : H b with
    | none => rfl
    | some u =>
      obtain ⟨z1, z2, _⟩ := sole b u e
      rw [z1, z2] at at_b
      cases at_b
  have lim : (hidT s1.heap H).NoLimit := by
    obtain ⟨mc, q1, q2⟩ := nl
    exact ⟨mc, seen q1, q2⟩
  have start0 : Env0 P wd K mg (hidT s1.heap H) callerA [] s1 H :=
    ⟨rfl, ⟨inB, seen gl, ⟨mb, seen bu, bo⟩, lim⟩, fun b o e => of_hidT e, Nat.le_of_eq (hidT_size _ _), trivial, fun b z => absurd (show b ∈ ([] : List Addr) from z) List.not_mem_nil, fits, .of_eq g0⟩
  have has : ∃ o, (hidT s1.heap H).get? sysModules = some o := by
    obtain ⟨mm, q⟩ := sy
    obtain ⟨o, es, ep, z, _⟩ := seen q
    exact ⟨o, z⟩
  have all := (F _ inB (seen gl) has).goes callerA [] s1 H ⟨[.ref a], []⟩ [.ref a] [.ref a] _ _ room rfl start0 (bd s1 (.ref a)) (.cons rfl .nil) (pre H script)
  refine codeAny_mono all ?_
  rintro (e | fl) s2 out
  · exact False.elim out
  · match fl, out with
    | .next, out => exact out.elim
    | .brk, out => exact out.elim
    | .cont, out => exact out.elim
    | .ret u, out =>
      obtain ⟨v, H2, sameOs, bare, un, fits2, rel, yes⟩ := out
      have yes' : v = .bl true := yes
      subst yes'
      have eu : u = Value.bool true := rel
      subst eu
      refine ⟨rfl, OldK.of_keep ?_, sameOs, bare⟩
      intro b o at_b
      cases e : H b with
      | none => exact un.keep b o at_b e (fun z => List.not_mem_nil (show b ∈ ([] : List Addr) from z)) (by simp)
      | some u =>
        obtain ⟨_, _, o', xs, z⟩ := sole b u e
        rw [z] at e
        have t1 := (fits b _ e).1
        have t2 := (fits2 b _ (un.frzs b o' _ e)).1
        rw [at_b] at t1
        rw [Option.some.inj t1]
        exact t2
theorem top_call2 (inK : K.In s1.heap) (gl : s1.heap.Ns mainGlobals mg) (bu : s1.heap.Ns builtinsNs mb) (bo : ∀ y : Str, y ≠ "__name__" → mb y = bootBuiltins y) (nl : s1.heap.NoLimit) (g0 : s1.gens = #[])
    (at_a : s1.heap.get? a = some { cls := .type "list", data := .seq us.toArray }) (iv : IntsAre us ns) (le : ns.length ≤ sizeLine) (room : Room k callerA)
    (sy : ∃ mm, s1.heap.Ns sysModules mm) (F : ∀ base : Heap, K.In base → base.Ns mainGlobals mg → (∃ o, base.get? sysModules = some o) → FnG P wd K mg base CX0 k fa fd [x] sp) (bd : ∀ (s : Shared) (u : Value), BindsTo s fd ⟨[u], []⟩ [(x, u)])
    (pre : ∀ H : Hp, SqL K H a (ns.map V.int) → sp [.ref a] H (fun v _ => v = .bl true) fun _ _ _ => False) :
    codeAny (model P wd) callerA (.call (.ref fa) ⟨[.ref a], []⟩) (Told s1) s1 := by
  have rel := ints_vals iv
  have hl := iv.length
  cases e : K.lookup a with
  | some o =>
    have t := inK a o e
    rw [at_a] at t
    cases t
    refine top_in2 inK gl bu bo nl g0 at_a room sy F bd pre (fun _ => none) (.inr ⟨_, us.toArray, _, e, rfl, rfl, rfl, ?_, ?_⟩) (fun b u z => ?_) (fun b u z => ?_)
    · rw [List.size_toArray, hl]
      exact le
    · simpa using rel
    · cases (show (none : Option HO) = some u from z)
    · cases (show (none : Option HO) = some u from z)
  | none =>
    have only : ∀ b u, (if b = a then some (HO.frz { cls := .type "list", data := .seq us.toArray } (.lst (ns.map V.int))) else none) = some u → b = a ∧ u = HO.frz { cls := .type "list", data := .seq us.toArray } (.lst (ns.map V.int)) := fun b u z => by
      by_cases q : b = a
      · rw [if_pos q] at z
        exact ⟨q, (Option.some.inj z).symm⟩
      · rw [if_neg q] at z
        cases z
    refine top_in2 inK gl bu bo nl g0 at_a room sy F bd pre (fun b => if b = a then some (.frz { cls := .type "list", data := .seq us.toArray } (.lst (ns.map V.int))) else none) (.inl (.inr ⟨_, if_pos rfl⟩)) (fun b u z => ?_) (fun b u z => ?_)
    · obtain ⟨q1, q2⟩ := only b u z
      subst q1 q2
      exact ⟨at_a, by rw [List.length_map]; exact le, us, _, rel, at_a⟩
    · obtain ⟨q1, q2⟩ := only b u z
      exact ⟨q1, e, _, _, q2⟩
end
/-- the goal that is left for the law's promise -/
theorem top_walk2 {l : PySem.W.OpenLaw} {n k : Nat} {q : Program} {loose : List Str} {XP : (Str → Option Value) → Heap → Prop} {YP : World → Heap → Prop} {d : DefRec} {K : Params → PySem.W.Frag} {sp : World → Sp} {x : Str}
    (imp : importsNone q = true) (most : l.most = some n) (le : n ≤ sizeLine) (nodef : d.params.defaults = []) (room : Room k callerA) (inY : ∀ (w : World) (h : Heap), YP w h → (K w.params).In h)
    (F : ∀ (w : World) (mg : Str → Option Value) (fa : Addr) (h : Heap), (K w.params).In h → h.Ns mainGlobals mg → mg d.name = some (.ref fa) →
      ∃ fd : FuncData, (∀ (s : Shared) (u : Value), BindsTo s fd ⟨[u], []⟩ [(x, u)]) ∧ ∀ base : Heap, (K w.params).In base → base.Ns mainGlobals mg → (∃ o, base.get? sysModules = some o) → FnG l.prog w (K w.params) mg base CX0 k fa fd [x] (sp w))
    (pre : ∀ (w : World) (H : Hp) (a : Addr) (ns : List Int), ns.length ≤ n → SqL (K w.params) H a (ns.map V.int) → sp w [.ref a] H (fun v _ => v = .bl true) fun _ _ _ => False) :
    PySem.W.WalkO q loose XP YP l.row.toRowW d [] (fun f vs => PySem.call f vs) := by
  apply Att.attach_call most nodef
  intro w s0 s1 mg mb fa o pm cd doc a us ns G Y at_f isf hc at_x at_a iv hl g0
  obtain ⟨fd, bd, prom⟩ := F w mg fa s1.heap (inY w _ Y) G.T.g at_x
  exact top_call2 (inY w _ Y) G.T.g G.T.b G.T.builtins G.T.nolimit g0 at_a iv (Nat.le_trans hl le) room (G.T.seer imp).mods' prom bd fun H script => pre w H a ns hl script
end Pd
namespace Tx
open PySem PySem.Spec PyProof.Rows L2
section
variable {P : Program} {w : World} {A : Around} {E : Value → Shared → Prop} {s : Shared}
/-- the object of a set that was just made -/
abbrev newI (w : World) : Obj := { cls := .type "set", dict := none, data := .set #[] 0 (.fresh 0 0 (!w.params.followText "set-order")) }
theorem set_ints {p : Addr} {items : Array Value} {ks : List Int} {Q : Value → Shared → Prop} (calm : A.handled = none) (at_p : s.heap.IsList p items) (are : IntsAre items.toList ks) (room : ks.length + 1 < scanBound)
    (fin : ∀ (h2 : Heap) (tk c : Nat), SetR w h2 s.heap.objs.size (fun j => decide (j ∈ ks)) c → c ≤ ks.length → (∀ b o, s.heap.get? b = some o → h2.get? b = some o) → Q (.ref s.heap.objs.size) { s with heap := h2, toks := tk }) :
    wpAny (model P w) A (call (.type "set") [.ref p]) Q E s := by
  have size : items.size = ks.length := by
    rw [← Array.length_toList]
    exact are.length
  have ⟨c, tl, hmro⟩ := F.called_set.mro
  have made := F.called_set.made; have sub := F.called_set.sub; have notT := F.called_set.notType
  have can := F.called_set.canCreate; have chk := F.typeCall_set_1 (.ref p)
  apply wpAny_call; apply codeAny_of_tree
  show wpAny _ _ (callAny (.type "set") _) _ _ _
  refine wpAny_pure (And.intro (Code.quiet_builtin _ (by decide +kernel)) (codeAny_builtin F.entry_type_call ?_))
  rw [Around.under_plain (weight_type_call_type "set" [.ref p] []) rfl]
  repeat (any_goals first | assumption | wp_step)
  apply codeAny_mono (code_set_led1 (.ref p) (E := E) (Q₁ := fun v s1 => v = .ref s.heap.objs.size ∧ s1 = { s with heap := s.heap.push (newI w) }) (And.intro rfl rfl))
  rintro (e | fl) s1 hr
  · exact hr
  match fl, hr with
  | .next, hr => exact hr.elim
  | .brk, hr => exact hr.elim
  | .cont, hr => exact hr.elim
  | .ret v, hr =>
    obtain ⟨rfl, rfl⟩ := hr
    have at_b : (s.heap.push (newI w)).get? s.heap.objs.size = some (newI w) := Heap.get?_push_size _ rfl
    have isT : Shared.TypeIs { s with heap := s.heap.push (newI w) } (.ref s.heap.objs.size) "set" := ⟨_, at_b, rfl⟩
    have look := F.called_set.init.lookup; have bnd := F.called_set.init.bind (.ref s.heap.objs.size)
    repeat (any_goals first | assumption | wp_step)
    apply codeAny_mono (codeAny_call_builtin (R := wants (fun r s2 => r = .none ∧ ∃ h2 tk c, s2 = { s with heap := h2, toks := tk } ∧ SetR w h2 s.heap.objs.size (fun j => decide (j ∈ ks)) c ∧ c ≤ ks.length ∧ ∀ b o, s.heap.get? b = some o → h2.get? b = some o) E)
      F.called_set.init.plain F.entry_set_init (check_set_init_1 isT ?_))
    · rintro (e | fl2) s2 hr2
      · exact hr2
      match fl2, hr2 with
      | .next, hr2 => exact hr2.elim
      | .brk, hr2 => exact hr2.elim
      | .cont, hr2 => exact hr2.elim
      | .ret v2, hr2 =>
        obtain ⟨rfl, h2, tk, c2, rfl, T, le, keep⟩ := hr2
        repeat (any_goals first | assumption | wp_step)
        exact fin _ _ _ T le keep
    · obtain ⟨ol, get_p, isc, n0, isd⟩ := at_p
      obtain ⟨ocl, odc, oda, osl⟩ := ol
      dsimp only at isc isd
      subst isc isd
      have get1 : (s.heap.push (newI w)).get? p = some { cls := .type "list", dict := odc, data := .seq items n0, slots := osl } := Heap.get?_push_of_some _ get_p
      have s1 := F.sub_list_set; have s2 := F.sub_list_frozenset
      have nd : (Value.type "list" == Value.type "dict") = false := by decide
      have lst1 : (s.heap.push (newI w)).IsList p items := ⟨_, get1, rfl, n0, rfl⟩
      unfold Builtin.«set.__init__»; unfold noKeywords; unfold Builtin.Frozenset.updateFrom
      generalize eI : pyIter = PI; wp_walk; subst eI
      apply wpAny_pyIter_list lst1; apply wpAny_bind; apply wpAny_runValue
      have ltp : p < s.heap.objs.size := Heap.lt_size get_p
      have calm3 : A.in1.in1.in1.handled = none := by simp [calm]
      have size1 : (s.heap.push (newI w)).objs.size = s.heap.objs.size + 1 := Heap.size_push ..
      have neI : p ≠ (s.heap.push (newI w)).objs.size := by
        rw [size1]
        exact Nat.ne_of_lt (Nat.lt_succ_of_lt ltp)
      have outb : s.heap.objs.size ∉ [(s.heap.push (newI w)).objs.size, p] := by
        rw [size1]
        intro z
        rcases List.mem_cons.mp z with z | z
        · exact absurd z (Nat.ne_of_lt (Nat.lt_succ_self _))
        · exact absurd (List.mem_singleton.mp z) (Nat.ne_of_gt ltp)
      have each : ∀ (i : Nat) (v : Value), items[i]? = some v → ∃ k t, ks[i]? = some k ∧ v = .int k t := fun i v hv => by
        have li : i < ks.length := by rw [← size]; exact (Array.getElem?_eq_some_iff.mp hv).1
        obtain ⟨t, e⟩ := IntsAre.int_at are i v (by rw [Array.getElem?_toList]; exact hv)
        refine ⟨ks[i], t, List.getElem?_eq_getElem li, ?_⟩
        rw [e, List.getD_eq_getElem?_getD, List.getElem?_eq_getElem li]
        rfl
      refine set_update_ints ((Walks.list calm3 _ p neI items).toS) s.heap.objs.size outb ks size room each (items.size - 0) 0 _ (by omega) (Nat.zero_le _)
        ⟨⟨_, Heap.get?_push_size _ rfl, rfl, rfl⟩, lst1.push _⟩ ⟨0, Nat.le_refl 0, setR_new_at (Heap.get?_push_of_some _ at_b)⟩ fun s3 c3 mv le T => ?_
      obtain ⟨h3, g3, d3, t3, o3⟩ := s3
      have e1 : g3 = s.gens := mv.gens
      have e2 : d3 = s.drawn := mv.drawn
      have e3 : o3 = s.os := mv.os
      subst e1 e2 e3
      show wpAny _ _ _ _ _ _
      apply wpAny_pure
      show wpAny _ _ (ret Value.none) _ _ _
      rw [size] at le
      refine wpAny_pure ⟨rfl, h3, t3, c3, rfl, T, le, fun b o e => mv.heap b o ?_ (Heap.get?_push_of_some _ (Heap.get?_push_of_some _ e))⟩
      have ltb : b < s.heap.objs.size := Heap.lt_size e
      intro z
      rcases List.mem_cons.mp z with z | z
      · exact absurd z (Nat.ne_of_lt ltb)
      · have y := List.mem_singleton.mp z
        rw [size1] at y
        exact absurd y (Nat.ne_of_lt (Nat.lt_succ_of_lt ltb))
end
end Tx
/-! sorted(set(a list of whole numbers)). -/
namespace Pd
open PySem PySem.Spec PyProof.Rows L2
section
variable {X : Cx} {w : Wd} {e : Expr} {te : TDE} {pos : Pos}
def rSetI (w : World) : List V → Hp → VK → Prop := fun vs H Q => ∃ (b : Addr) (ks : List Int), vs = [.ref b] ∧ H b = some (.lst (ks.map V.int)) ∧ ks.length ≤ 1000 ∧ ∀ p c, H p = none → c ≤ ks.length → Q (.ref p) (upd H p (SetO w p (fun j => decide (j ∈ ks)) c))
theorem cr_setI (hc : X.calm = true) : CallR X (.type "set") (rSetI X.w) := by
  intro pins s σ H vs us Q I r h
  obtain ⟨b, ks, rfl, hT, few, q⟩ := h
  obtain ⟨its, rv, pl, _⟩ := I.list (SqL.of (K := X.K) hT)
  rw [Vals.ref1 r]
  refine Tx.set_ints (ks := ks) (I.ok.hd hc) pl.isList (by simpa using rv.ints) (by unfold scanBound; omega) fun h2 tk c T le keep => ?_
  have hn : H s.heap.objs.size = none := I.hok.fresh (Nat.le_refl _)
  have J : Inv X pins σ (upd H s.heap.objs.size (SetO X.w s.heap.objs.size (fun j => decide (j ∈ ks)) c)) { s with heap := h2, toks := tk } :=
    I.call (ch := []) (Un.laid keep (Nat.le_refl _) hn) (I.hok.laid keep (Nat.le_refl _) (setO_new T)) I.bare (fun _ z => nomatch z)
  exact ⟨.ref s.heap.objs.size, _, J, rfl, q _ c hn le⟩
def dSrtI (te : TDE) : TDE := fun r Q => te r fun x => ∃ ns : List Int, x = .lst (ns.map .int) ∧ ns.length ≤ 60 ∧ ∀ ks : List Int, ks.Pairwise (· < ·) → (∀ k, k ∈ ks ↔ k ∈ ns) → Q (.lst (ks.map .int))
theorem ped_sortedSetI {p p2 q : Pos} (hm : X.mg "sorted" = none) (hm2 : X.mg "set" = none) (he : PEd X w e te) (hc : X.calm = true := by rfl) (hg : Gl X "sorted" := by rfl) (hg2 : Gl X "set" := by rfl)
    (st : starEach [e] X.env = (false, eval e X.env) :: starEach [] X.env := by rfl) (st2 : starEach [.Call (.Name "set" p2) [e] [] q] X.env = (false, eval (.Call (.Name "set" p2) [e] [] q) X.env) :: starEach [] X.env := by rfl) :
    PEd X w (.Call (.Name "sorted" p) [.Call (.Name "set" p2) [e] [] q] [] pos) (dSrtI te) := by
  refine ⟨weE (pe_callB (cr_sortedSet hc) hg hm (by decide +kernel) (pa_cons (pe_callTy (cr_setI hc) hg2 hm2 (by decide +kernel) (pa_cons he.pe pa_nil st) (by decide) (by decide) (by exact st) (by rfl)) pa_nil st2) (by decide) (by decide) (by exact st2) (by rfl)) ?_, fun r Q Q' q h => he.mo _ _ _ (fun d ⟨ts, h1, h2, h3⟩ => ⟨ts, h1, h2, fun ks a b => q _ (h3 ks a b)⟩) h⟩
  rintro σ H Q ⟨W, own, r, S, z⟩
  refine go1 he S z fun d v H1 e1 k1 d1 ⟨ns, h1, h2, h3⟩ => ?_
  subst h1
  cases d1 with
  | @lst a us _ a1 a2 =>
    have eu := a2.ints
    subst eu
    refine ⟨a, ns, rfl, (hid_some a1).2, by omega, fun p c np le => ?_⟩
    refine ⟨p, _, c, rfl, upd_same, by omega, fun ks p2 pw mem _ np2 => ?_⟩
    obtain ⟨x1, x2, _, _⟩ := k1.new (o := SetO X.w p (fun j => decide (j ∈ ns)) c) np
    obtain ⟨y1, y2, y3, y4⟩ := x2.new (o := .lst (ks.map V.int)) np2
    exact h3 ks pw (fun k => (mem k).trans ⟨fun z => of_decide_eq_true z, fun z => decide_eq_true z⟩) (.ref p2) _ (e1.trans (x1.trans y1)) y2 (.lst y4 (DvAll.mk_ints _))
end
end Pd
/-! name = [.. for .. for ..]. -/
namespace Pd
open PySem PySem.Spec PyProof.Rows L2
section
variable {X : Cx} {w : Wd} {pos : Pos}
theorem psd_setLc2 {i : Nat} {y : Str} {py spos : Pos} {elt tg iter tg1 iter1 : Expr} {ifs ifs1 : List Expr} {scope : Scope} {own : List (Str × Nat)} {vs1 : List Nat} {g g1 : TG} {gd gd1 : TDG} {gvs gvs1 : List Nat} {wd wd1 : TDI} {tt tt1 : TDT} {te : TDE} (hN : X.N.Nodup) (hi : PId X w tg iter wd) (ok : BlkOk X.N X.env.scope scope own) (hv : ∀ i ∈ vs1, i ∈ own.map (·.2))
    (G : GDs X.K g gd gvs) (gmo : ∀ v σ H Q Q', (∀ a b, Q a b → Q' a b) → g v σ H Q → g v σ H Q') (sub : ∀ i ∈ gvs, i ∈ own.map (·.2))
    (G1 : GDs X.K g1 gd1 gvs1) (gmo1 : ∀ v σ H Q Q', (∀ a b, Q a b → Q' a b) → g1 v σ H Q → g1 v σ H Q') (sub1 : ∀ i ∈ gvs1, i ∈ vs1)
    (hg : ∀ (s : Shared) (H : Hp) (C : Addr) (cl : List (Str × Addr)) (fp : List Addr), PG (X.blk s H scope (compEnvC scope cl C X.env) fp) tg g)
    (ht : ∀ (s : Shared) (H : Hp) (C : Addr) (cl : List (Str × Addr)) (fp : List Addr), PTsd (X.blk s H scope (compEnvC scope cl C X.env) fp) w ifs tt)
    (hi1 : ∀ (s : Shared) (H : Hp) (C : Addr) (cl : List (Str × Addr)) (fp : List Addr), PId (X.blk s H scope (compEnvC scope cl C X.env) fp) w tg1 iter1 wd1)
    (hg1 : ∀ (s : Shared) (H : Hp) (C : Addr) (cl : List (Str × Addr)) (fp : List Addr), PG (X.blk s H scope (compEnvC scope cl C X.env) fp) tg1 g1)
    (ht1 : ∀ (s : Shared) (H : Hp) (C : Addr) (cl : List (Str × Addr)) (fp : List Addr), PTsd (X.blk s H scope (compEnvC scope cl C X.env) fp) w ifs1 tt1)
    (he : ∀ (s : Shared) (H : Hp) (C : Addr) (cl : List (Str × Addr)) (fp : List Addr), PEd (X.blk s H scope (compEnvC scope cl C X.env) fp) w elt te)
    (s0 : Shared) (hsw : swapsWith (.ListComp elt [⟨tg, iter, ifs, 0⟩, ⟨tg1, iter1, ifs1, 0⟩] scope pos) (some (.Name y py)) spos.line X.env = pure true) (hy : X.N[i]? = some y := by rfl) (hyl : X.env.scope.names.lookup y = some .local := by rfl) (hc : X.calm = true := by rfl) (hs : ∀ x, foldedSetIterable iter X.env x = pure x := by intro _; rfl) (hs1 : ∀ env x, foldedSetIterable iter1 env x = pure x := by intro _ _; rfl) :
    PSd X w (.Assign [.Name y py] (.ListComp elt [⟨tg, iter, ifs, 0⟩, ⟨tg1, iter1, ifs1, 0⟩] scope pos) spos) (fun E r => dLcN wd gd tt wd1 gd1 tt1 te (own.map (·.2)) vs1 r fun ds => E.nx (r.set i (.dat (.lst ds)))) := by
  have mt := (ht s0 (fun _ => none) 0 [] []).mo
  have mt1 := (ht1 s0 (fun _ => none) 0 [] []).mo
  have mw1 := (hi1 s0 (fun _ => none) 0 [] []).mo
  have me := (he s0 (fun _ => none) 0 [] []).mo
  refine ⟨weS (ps_setLc2 (i := i) (tt := liT X.K w tt) (tt1 := liT X.K w tt1) (wi1 := liI X.K w wd1) (te := liE X.K w te) hc hN hy hyl hsw hi.pi ok hv hg (fun s H C cl fp => (ht s H C cl fp).pt) (fun s H C cl fp => (hi1 s H C cl fp).pi) hg1 (fun s H C cl fp => (ht1 s H C cl fp).pt) (fun s H C cl fp => (he s H C cl fp).pe) hs hs1) ?_,
    fun E E' r l h => hi.mo _ _ _ (fun ds => lcN_mo G.mo mt mw1 G1.mo mt1 me (fun d => l.nx _) ds []) h⟩
  rintro D σ H ⟨W, own', r, S, h⟩
  refine lcF2_in G gmo sub G1 gmo1 sub1 mt mt1 me hi.mo mw1 S (hi.mo _ _ _ (fun ds => lcN_mo G.mo mt mw1 G1.mo mt1 me (fun es z p xs H1 e1 k1 np dv => ?_) ds []) h)
  obtain ⟨n1, n2, n3, n4⟩ := k1.new (o := .lst xs) np
  obtain ⟨o2, S2⟩ := (S.ext (e1.trans n1) n2).set (i := i) (.lst n4 (DvAll.mono n3 _ _ dv))
  exact z W o2 _ _ (.of n2 (e1.trans n1)) S2
end
/-! ### what a comprehension of two walks gives -/
/-- the inner turns, each known: none (left out) or one thing -/
theorem lcK_run {gd : TDG} {tt : TDT} {te : TDE} {vs : List Nat} {r : En} {k : List Da → Prop} (f : Da → Option Da) : ∀ (ds acc : List Da), acc.length + ds.length ≤ sizeLine →
    (∀ d ∈ ds, ∀ (Y : Da → Prop) (Z : Prop), (∀ y, f d = some y → Y y) → (f d = none → Z) → gd d (wipeD r vs) fun r2 => tt r2 fun b => if b = true then te r2 Y else Z) →
    k (acc ++ ds.filterMap f) → lcK gd tt te vs r k ds acc
  | [], acc, _, _, h => by rw [List.filterMap_nil, List.append_nil] at h; exact h
  | d :: ds, acc, hl, st, h => by
    rw [List.length_cons] at hl
    refine st d List.mem_cons_self (fun y => acc.length < sizeLine ∧ lcK gd tt te vs r k ds (acc ++ [y])) (lcK gd tt te vs r k ds acc) (fun y hy => ⟨by omega, ?_⟩) (fun hn => ?_)
    · refine lcK_run f ds (acc ++ [y]) (by rw [List.length_append, List.length_singleton]; omega) (fun e he => st e (List.mem_cons_of_mem _ he)) ?_
      rw [List.filterMap_cons, hy] at h
      rw [List.append_assoc]
      exact h
    · refine lcK_run f ds acc (by omega) (fun e he => st e (List.mem_cons_of_mem _ he)) ?_
      rw [List.filterMap_cons, hn] at h
      exact h
theorem lcN_run {gd : TDG} {tt : TDT} {wd1 : TDI} {gd1 : TDG} {tt1 : TDT} {te : TDE} {vs vs1 : List Nat} {r : En} {k : List Da → Prop} (F : Da → List Da) (B : Nat) : ∀ (ds acc : List Da), acc.length + (ds.flatMap F).length ≤ B →
    (∀ d ∈ ds, ∀ (acc : List Da) (k' : List Da → Prop), acc.length + (F d).length ≤ B → k' (acc ++ F d) → gd d (wipeD r vs) fun r2 => tt r2 fun b => if b = true then wd1 r2 fun es => lcK gd1 tt1 te vs1 r2 k' es acc else k' acc) →
    k (acc ++ ds.flatMap F) → lcN gd tt wd1 gd1 tt1 te vs vs1 r k ds acc
  | [], acc, _, _, h => by rw [List.flatMap_nil, List.append_nil] at h; exact h
  | d :: ds, acc, hl, st, h => by
    rw [List.flatMap_cons, List.length_append] at hl
    refine st d List.mem_cons_self acc _ (by omega) ?_
    refine lcN_run F B ds (acc ++ F d) (by rw [List.length_append]; omega) (fun e he => st e (List.mem_cons_of_mem _ he)) ?_
    rw [List.flatMap_cons] at h
    rw [List.append_assoc]
    exact h
end Pd
/-! Groups: a dict of one's own whose values are lists of one's own. -/
namespace Pd
open PySem PySem.Spec PyProof.Rows L2
theorem pe_any {X : Cx} {e : Expr} {ι : Sort _} {t : ι → TE} (h : ∀ i, PE X e (t i)) : PE X e (fun σ H Q => ∃ i, t i σ H Q) := ⟨fun pins s σ H Q I ⟨i, z⟩ => (h i).run pins s σ H Q I z⟩
section
variable {K : PySem.W.Frag} {w : Wd} {W : Addr → Bool} {own : Ow} {r : En} {σ : L2.St} {H H' : Hp}
/-- a hidden list or dict that is nobody's becomes that of a slot of which nothing is told -/
theorem Stt.claim (S : Stt K w W own r σ H) (i : Nat) {p : Addr} (Wp : W p = true) (h0 : w.H0 p = none) (ge : w.g ≠ some p) (oN : ∀ j, ¬ own j p) (mu : Mut H p) (no : r[i]? = some .no) :
    Stt K w W (fun j a => (j = i ∧ a = p) ∨ own j a) r σ H := by
  refine ⟨S.ok, S.base, S.w0, S.g0, fun j a h => ?_, fun j k a q1 q2 => ?_, S.len, fun j d h n => ?_⟩
  · rcases h with ⟨_, rfl⟩ | h
    · exact ⟨Wp, h0, ge⟩
    · exact S.oW j a h
  · rcases q1 with ⟨rfl, rfl⟩ | q1
    · rcases q2 with ⟨rfl, _⟩ | q2
      · exact ⟨rfl, mu⟩
      · exact absurd q2 (oN k)
    · rcases q2 with ⟨rfl, rfl⟩ | q2
      · exact absurd q1 (oN j)
      · exact S.inj j k a q1 q2
  · obtain ⟨v, q1, q2⟩ := S.sl j d h n
    have hj : j ≠ i := fun z => by
      subst z
      rw [no] at h
      cases h
      exact n rfl
    refine ⟨v, q1, ?_⟩
    cases d with
    | no => exact absurd rfl n
    | dat d => exact q2
    | own fs =>
      obtain ⟨b, zs, p1, p2, p3, p4⟩ := q2
      exact ⟨b, zs, ⟨.inr p1.1, fun c hc => hc.elim (fun z => absurd z.1 hj) fun z => p1.2 c z⟩, p2, p3, p4⟩
    | reg ds =>
      obtain ⟨b, zs, p1, p2, p3, p4⟩ := q2
      exact ⟨b, zs, .inr p1, p2, p3, DvAll.mono (cutAt_sm (vis_up (fun a o q z => ⟨.inr q, z⟩) fun _ _ z => z)) _ _ p4⟩
/-- groups of things by numbers -/
structure Grp (K : PySem.W.Frag) (g : Option Addr) (W : Addr → Bool) (own : Ow) (s : Nat) (H : Hp) (D : Addr) (T : List (Int × Da)) (ks : List Int) (q : Int → Addr) : Prop where
  oD : own s D
  hD : H D = some (.dK (ks.map fun k => (Sum.inl k, V.ref (q k))))
  nd : ks.Nodup
  mem : ∀ k, k ∈ ks ↔ k ∈ T.map (·.1)
  at_ : ∀ k ∈ ks, own s (q k) ∧ q k ≠ D ∧ ∃ vs, H (q k) = some (.lst vs) ∧ DvAll K g (hid W H) vs ((T.filter fun p => p.1 == k).map (·.2))
  inj : ∀ k ∈ ks, ∀ k' ∈ ks, q k = q k' → k = k'
variable {g : Option Addr} {s : Nat} {D : Addr} {T : List (Int × Da)} {ks : List Int} {q : Int → Addr}
theorem Grp.ext (G : Grp K g W own s H D T ks q) (gW : ∀ a, g = some a → W a = true) (og : ∀ a, own s a → g ≠ some a) (e : Ext g H H') : Grp K g W own s H' D T ks q :=
  ⟨G.oD, e D _ (og D G.oD) G.hD, G.nd, G.mem, fun k hk => by
    obtain ⟨h1, h2, vs, h3, h4⟩ := G.at_ k hk
    exact ⟨h1, h2, vs, e _ _ (og _ h1) h3, DvAll.mono (e.hid gW) _ _ h4⟩, G.inj⟩
theorem Grp.sub {own' : Ow} (G : Grp K g W own s H D T ks q) (h : ∀ a, own s a → own' s a) : Grp K g W own' s H D T ks q :=
  ⟨h _ G.oD, G.hD, G.nd, G.mem, fun k hk => by
    obtain ⟨h1, h2, h3⟩ := G.at_ k hk
    exact ⟨h _ h1, h2, h3⟩, G.inj⟩
theorem Grp.up {W' : Addr → Bool} (G : Grp K g W own s H D T ks q) (h : ∀ a o, own s a → H a = some o → H' a = some o) (sm : Sm (hid W H) (hid W' H')) : Grp K g W' own s H' D T ks q :=
  ⟨G.oD, h _ _ G.oD G.hD, G.nd, G.mem, fun k hk => by
    obtain ⟨h1, h2, vs, h3, h4⟩ := G.at_ k hk
    exact ⟨h1, h2, vs, h _ _ h1 h3, DvAll.mono sm _ _ h4⟩, G.inj⟩
theorem valV_grp {ks : List Int} {q : Int → Addr} {n : Int} (h : n ∈ ks) : valV (ks.map fun k => ((Sum.inl k : Key), V.ref (q k))) (Sum.inl n) = some (V.ref (q n)) := by
  induction ks with
  | nil => cases h
  | cons k ks ih =>
    rw [List.map_cons]
    by_cases e : k = n
    · subst e
      exact valV_pos rfl
    · rw [valV_neg (fun z => e (Sum.inl.inj z))]
      exact ih ((List.mem_cons.mp h).resolve_left (fun z => e z.symm))
theorem valV_ngrp {ks : List Int} {q : Int → Addr} {n : Int} (h : n ∉ ks) : valV (ks.map fun k => ((Sum.inl k : Key), V.ref (q k))) (Sum.inl n) = none := by
  induction ks with
  | nil => rfl
  | cons k ks ih =>
    rw [List.map_cons, valV_neg (fun z => h (by rw [Sum.inl.inj z]; exact List.mem_cons_self))]
    exact ih fun z => h (List.mem_cons_of_mem _ z)
/-- one more of a number that has a group -/
theorem Grp.more (G : Grp K g W own s H D T ks q) {n : Int} {d : Da} {v : V} {vs : List V} (hn : n ∈ ks) (hW : W (q n) = true) (hv : H (q n) = some (.lst vs)) (dv : Dv K g (hid W H) v d) :
    Grp K g W own s (upd H (q n) (.lst (vs ++ [v]))) D (T ++ [(n, d)]) ks q := by
  obtain ⟨_, nD, _⟩ := G.at_ n hn
  refine ⟨G.oD, by rw [upd_ne (Ne.symm nD)]; exact G.hD, G.nd, fun k => ?_, fun k hk => ?_, G.inj⟩
  · rw [List.map_append, List.mem_append, ← G.mem k]
    constructor
    · exact .inl
    · rintro (z | z)
      · exact z
      · rw [List.mem_singleton.mp z]; exact hn
  · obtain ⟨h1, h2, us, h3, h4⟩ := G.at_ k hk
    rw [hid_upd hW, List.filter_append, List.map_append]
    by_cases e : k = n
    · subst e
      rw [hv] at h3
      cases h3
      refine ⟨h1, h2, _, upd_same, ?_⟩
      have e2 : ([(k, d)].filter fun p => p.1 == k).map (·.2) = [d] := by simp
      rw [e2]
      exact h4.app (.cons dv .nil)
    · refine ⟨h1, h2, us, by rw [upd_ne fun z => e (G.inj k hk n hn z)]; exact h3, ?_⟩
      have e2 : ([(n, d)].filter fun p => p.1 == k).map (·.2) = [] := by
        rw [List.filter_cons_of_neg (by simpa using fun z => e z.symm)]
        rfl
      rw [e2, List.append_nil]
      exact h4
/-- the first of a number -/
theorem Grp.first (G : Grp K g W own s H D T ks q) {n : Int} {d : Da} {v : V} {p : Addr} (hn : n ∉ ks) (op : own s p) (np : p ≠ D) (nq : ∀ k ∈ ks, q k ≠ p) (hD : W D = true) (hp : W p = true) (dv : Dv K g (hid W H) v d) :
    Grp K g W own s (upd (upd H D (.dK (putK (ks.map fun k => ((Sum.inl k : Key), V.ref (q k))) (Sum.inl n) (.ref p)))) p (.lst [v])) D (T ++ [(n, d)]) (ks ++ [n]) (fun k => if k = n then p else q k) := by
  have eq : ∀ k ∈ ks, (if k = n then p else q k) = q k := fun k hk => if_neg fun (z : k = n) => hn (by rw [← z]; exact hk)
  have ep : putK (ks.map fun k => ((Sum.inl k : Key), V.ref (q k))) (Sum.inl n) (.ref p) = (ks ++ [n]).map fun k => ((Sum.inl k : Key), V.ref (if k = n then p else q k)) := by
    rw [putK_new _ (valV_ngrp hn), List.map_append]
    have e1 : (ks.map fun k => ((Sum.inl k : Key), V.ref (q k))) = ks.map fun k => ((Sum.inl k : Key), V.ref (if k = n then p else q k)) := List.map_congr_left fun k hk => by rw [eq k hk]
    rw [e1]
    show _ = _ ++ [(Sum.inl n, V.ref (if n = n then p else q n))]
    rw [if_pos rfl]
  have none_ : (T.filter fun x => x.1 == n) = [] := by
    rw [List.filter_eq_nil_iff]
    intro x hx z
    have : x.1 = n := by simpa using z
    exact hn ((G.mem n).mpr (List.mem_map.mpr ⟨x, hx, this⟩))
  have hh : hid W (upd (upd H D (.dK (putK (ks.map fun k => ((Sum.inl k : Key), V.ref (q k))) (Sum.inl n) (.ref p)))) p (.lst [v])) = hid W H := by rw [hid_upd hp, hid_upd hD]
  refine ⟨G.oD, by rw [upd_ne (Ne.symm np), upd_same, ep], ?_, fun k => ?_, fun k hk => ?_, fun k hk k' hk' => ?_⟩
  · rw [List.nodup_append]
    refine ⟨G.nd, by simp, fun a ha b hb z => hn ?_⟩
    rw [← List.mem_singleton.mp hb, ← z]
    exact ha
  · rw [List.map_append, List.mem_append, List.mem_append, ← G.mem k]
    rfl
  · rw [hh, List.filter_append, List.map_append]
    rcases List.mem_append.mp hk with z | z
    · obtain ⟨h1, h2, us, h3, h4⟩ := G.at_ k z
      have ne : k ≠ n := fun y => hn (y ▸ z)
      rw [eq k z]
      refine ⟨h1, h2, us, by rw [upd_ne (nq k z), upd_ne h2]; exact h3, ?_⟩
      have e2 : ([(n, d)].filter fun p => p.1 == k).map (·.2) = [] := by
        rw [List.filter_cons_of_neg (by simpa using fun z => ne z.symm)]
        rfl
      rw [e2, List.append_nil]
      exact h4
    · have e := List.mem_singleton.mp z
      subst e
      rw [if_pos rfl, none_]
      refine ⟨op, np, _, upd_same, ?_⟩
      have e2 : ([(k, d)].filter fun p => p.1 == k).map (·.2) = [d] := by simp
      rw [e2]
      exact .cons dv .nil
  · rcases List.mem_append.mp hk with z | z
    · rcases List.mem_append.mp hk' with z' | z'
      · rw [eq k z, eq k' z']
        exact G.inj k z k' z'
      · rw [eq k z, List.mem_singleton.mp z', if_pos rfl]
        exact fun y => absurd y (nq k z)
    · rcases List.mem_append.mp hk' with z' | z'
      · rw [eq k' z', List.mem_singleton.mp z, if_pos rfl]
        exact fun y => absurd y.symm (nq k' z')
      · intro _
        rw [List.mem_singleton.mp z, List.mem_singleton.mp z']
end
end Pd
/-! A body that made groups returns: what is new is data again, and known to be new. -/
namespace Pd
open PySem PySem.Spec PyProof.Rows L2
open Classical in
/-- all that was there and may change is hidden -/
noncomputable def oldM (w : Wd) : Addr → Bool := fun a => w.W0 a || decide (Mut w.H0 a)
theorem oldM_no {w : Wd} {a : Addr} (h1 : w.W0 a = false) (h2 : ¬ Mut w.H0 a) : oldM w a = false := by
  simp only [oldM, h1, Bool.false_or, decide_eq_false_iff_not]
  exact h2
theorem oldM_of {w : Wd} {a : Addr} (h : oldM w a = false) : w.W0 a = false ∧ ¬ Mut w.H0 a := by
  simp only [oldM, Bool.or_eq_false_iff, decide_eq_false_iff_not] at h
  exact h
def grpD (T : List (Int × Da)) (ks : List Int) : List (Key × Da) := ks.map fun k => (Sum.inl k, .lst ((T.filter fun p => p.1 == k).map (·.2)))
section
variable {K : PySem.W.Frag} {w : Wd} {W : Addr → Bool} {own : Ow} {r : En} {σ : L2.St} {H : Hp}
theorem w0_no {w : Wd} (wok : ∀ a, w.W0 a = true → ∃ o, w.H0 a = some o) {a : Addr} (h : w.H0 a = none) : w.W0 a = false := by
  cases y : w.W0 a with
  | false => rfl
  | true => obtain ⟨o, z⟩ := wok a y; rw [h] at z; cases z
theorem mut_none {H : Hp} {a : Addr} (h : H a = none) : ¬ Mut H a := by
  rintro (⟨xs, z⟩ | ⟨xs, z⟩)
  · rw [h] at z; cases z
  · rw [h] at z; cases z
theorem Stt.ok0 (S : Stt K w W own r σ H) : OkW K w.g w.W0 H := by
  refine ⟨fun c hc => ?_, S.g0, fun c hc => S.ok.al c (S.w0 c hc)⟩
  obtain ⟨x, y, n, c', cs, h1, h2⟩ := S.ok.bag c hc
  exact ⟨x, y, n, c', cs, h1, hid_le S.w0 _ _ h2⟩
theorem extNone_g {g : Option Addr} {H H' : Hp} (e : Ext none H H') : Ext g H H' := ⟨fun b o _ hb => e b o (fun z => by cases z) hb, fun a xs _ hx => ⟨xs, e a _ (fun z => by cases z) hx, rfl⟩⟩
/-- what is hidden of the old -/
theorem Stt.oldM_al (S : Stt K w W own r σ H) {a : Addr} (h : oldM w a = true) : ∃ o, H a = some o := by
  simp only [oldM, Bool.or_eq_true, decide_eq_true_eq] at h
  rcases h with h | h
  · exact S.ok.al a (S.w0 a h)
  · by_cases z : w.g = some a
    · exact S.ok.al a (S.ok.gW a z)
    · rcases h with ⟨xs, y⟩ | ⟨xs, y⟩
      · exact ⟨_, S.base a _ z y⟩
      · exact ⟨_, S.base a _ z y⟩
theorem sees_end (S : Stt K w W own r σ H) : Sees (hid W H) (hid (oldM w) H) := fun a o h n1 n2 => by
  obtain ⟨h1, h2⟩ := hid_some h
  have w0 : w.W0 a = false := by
    cases y : w.W0 a with
    | false => rfl
    | true => rw [S.w0 a y] at h1; cases h1
  have ng : w.g ≠ some a := fun z => by rw [S.ok.gW a z] at h1; cases h1
  rw [hid_no (oldM_no w0 fun m => ?_)]
  · exact h2
  · rcases m with ⟨xs, y⟩ | ⟨xs, y⟩
    · have := S.base a _ ng y
      rw [h2] at this
      exact n1 xs (Option.some.inj this)
    · have := S.base a _ ng y
      rw [h2] at this
      exact n2 xs (Option.some.inj this)
theorem noLs_filter {T : List (Int × Da)} (h : noLs (T.map (·.2)) = true) (f : Int × Da → Bool) : noLs ((T.filter f).map (·.2)) = true := by
  induction T with
  | nil => rfl
  | cons t T ih =>
    rw [List.map_cons, noLs, Bool.and_eq_true] at h
    by_cases z : f t = true
    · rw [List.filter_cons_of_pos z, List.map_cons, noLs, h.1, ih h.2]
      rfl
    · rw [List.filter_cons_of_neg z]
      exact ih h.2
theorem grp_kvs {s : Nat} {T : List (Int × Da)} {q : Int → Addr} (S : Stt K w W own r σ H) (wok : ∀ a, w.W0 a = true → ∃ o, w.H0 a = some o) (hn : noLs (T.map (·.2)) = true) : ∀ (ks : List Int),
    (∀ k ∈ ks, own s (q k) ∧ ∃ vs, H (q k) = some (.lst vs) ∧ DvAll K w.g (hid W H) vs ((T.filter fun p => p.1 == k).map (·.2))) →
    KvAll K none (hid (oldM w) H) (ks.map fun k => (Sum.inl k, V.ref (q k))) (grpD T ks)
  | [], _ => .nil
  | k :: ks, h => by
    obtain ⟨o, vs, h1, h2⟩ := h k List.mem_cons_self
    obtain ⟨z1, z2, z3⟩ := S.oW s _ o
    refine .cons (.lst ?_ (DvAll.sees (sees_end S) _ _ (noLs_filter hn _) h2)) (grp_kvs (s := s) S wok hn ks fun k hk => h k (List.mem_cons_of_mem _ hk))
    rw [hid_no (oldM_no (w0_no wok z2) (mut_none z2))]
    exact h1
theorem grp_end {s : Nat} {D : Addr} {T : List (Int × Da)} {ks : List Int} {q : Int → Addr} (S : Stt K w W own r σ H) (wok : ∀ a, w.W0 a = true → ∃ o, w.H0 a = some o) (hn : noLs (T.map (·.2)) = true) (G : Grp K w.g W own s H D T ks q) (hs : σ[s]? = some (some (.ref D))) :
    Stt K ⟨H, none, oldM w⟩ (oldM w) (fun _ _ => False) ((List.replicate σ.length Sl.no).set s (.dat (.dct (grpD T ks)))) σ H := by
  refine ⟨⟨(fun a h => by cases h), (fun a h => by cases h), fun a h => S.oldM_al h⟩, Ext.refl, fun _ h => h, (fun a h => by cases h), fun i a h => h.elim, fun i j a h => h.elim, by rw [List.length_set, List.length_replicate], fun i d h n => ?_⟩
  by_cases hi : i = s
  · subst hi
    have hl : i < σ.length := (List.getElem?_eq_some_iff.mp hs).1
    rw [List.getElem?_set_self (by rw [List.length_replicate]; exact hl)] at h
    cases h
    obtain ⟨z1, z2, z3⟩ := S.oW _ _ G.oD
    refine ⟨_, hs, .dct (by rw [hid_no (oldM_no (w0_no wok z2) (mut_none z2))]; exact G.hD) (grp_kvs (s := i) S wok hn ks fun k hk => ?_)⟩
    obtain ⟨h1, _, h3⟩ := G.at_ k hk
    exact ⟨h1, h3⟩
  · rw [List.getElem?_set_ne (Ne.symm hi), List.getElem?_replicate] at h
    split at h
    · cases h; exact absurd rfl n
    · cases h
theorem sees_new2 {H1 : Hp} : Sees (hid (oldM w) H1) (newM w.H0 (hid w.W0 H1)) := fun a o h n1 n2 => by
  obtain ⟨h1, h2⟩ := hid_some h
  obtain ⟨z1, z2⟩ := oldM_of h1
  by_cases q : w.H0 a = none
  · rw [newM_new q, hid_no z1]; exact h2
  · rw [newM_old q, hid_no z1, h2]
    cases o with
    | lst xs => exact absurd rfl (n1 xs)
    | dK xs => exact absurd rfl (n2 xs)
    | _ => rfl
theorem new_lsts {H1 : Hp} (b : Ext w.g w.H0 H1) (g0 : ∀ a, w.g = some a → w.W0 a = true) : ∀ (ds : List (List Da)) (xs : List V), (∀ l ∈ ds, noLs l = true) → DvAll K none (hid (oldM w) H1) xs (ds.map .lst) → DvAll K w.g (newM w.H0 (hid w.W0 H1)) xs (ds.map .lst)
  | [], _, _, h => by cases h; exact .nil
  | l :: ds, _, n, h => by
    cases h with
    | cons h1 h2 =>
      refine .cons ?_ (new_lsts b g0 ds _ (fun l hl => n l (List.mem_cons_of_mem _ hl)) h2)
      cases h1 with
      | @lst a xs _ a1 a2 =>
        refine .lst ?_ (DvAll.sees sees_new2 _ _ (n l List.mem_cons_self) a2)
        obtain ⟨q1, q2⟩ := hid_some a1
        obtain ⟨z1, z2⟩ := oldM_of q1
        have ho : w.H0 a = none := by
          cases y : w.H0 a with
          | none => rfl
          | some o =>
            have := b a o (fun z => by rw [g0 a z] at z1; cases z1) y
            rw [q2] at this
            cases this
            exact absurd (.inl ⟨xs, y⟩) z2
        rw [newM_new ho, hid_no z1]
        exact q2
/-- a list of new lists, of a new list of such data -/
theorem grp_ret {W : Addr → Bool} {Q : VK} {ds : List (List Da)} (S : Stt K w W own r σ H) (n : ∀ l ∈ ds, noLs l = true) (q : NewR K w.g w.W0 w.H0 Q (ds.map .lst)) : NewL K none (oldM w) H Q (ds.map .lst) := fun p xs H1 e1 k1 np dv => by
  have b := S.base.trans (extNone_g (g := w.g) e1)
  refine q p xs H1 b ?_ np (new_lsts b S.g0 ds xs n dv)
  have k0 := S.ok0
  refine ⟨fun c hc => ?_, k0.gW, fun c hc => ?_⟩
  · obtain ⟨x, y, z, c', cs, h1, h2⟩ := k0.bag c hc
    obtain ⟨h3, h4⟩ := hid_some h2
    exact ⟨x, y, z, c', cs, e1 c _ (fun z => by cases z) h1, by rw [hid_no h3]; exact e1 c' _ (fun z => by cases z) h4⟩
  · obtain ⟨o, z⟩ := k0.al c hc
    exact ⟨o, e1 c o (fun z => by cases z) z⟩
end
end Pd
/-! Texts told apart. -/
namespace Pd
open PySem PySem.Spec PyProof.Rows L2
def strNeD : DD := fun x y Q => ∃ i j, x = .str i ∧ y = .str j ∧ Q (.bl (!(i == j)))
theorem ped_neS {X : Cx} {w : Wd} {a b : Expr} {pos : Pos} {ta tb : TDE} (ha : PEd X w a ta) (hb : PEd X w b tb) : PEd X w (.Compare a [.NotEq] [b] pos) (dOp strNeD ta tb) := by
  refine ped_cmp op_ne (nobehind _ (by decide) (by decide)) (fun x y Q Q' q ⟨i, j, a, b, h⟩ => ⟨i, j, a, b, q _ h⟩) ?_ ha hb
  rintro g W H v u x y Q k dx dy ⟨i, j, rfl, rfl, h⟩
  cases dx
  cases dy
  have e : decide (V.str i = V.str j) = (i == j) := by
    rw [Bool.eq_iff_iff]
    simp
  exact ⟨rfl, by rw [e]; exact h.now k (.bl _)⟩
theorem ptd_neS {X : Cx} {w : Wd} {a b : Expr} {pos : Pos} {ta tb : TDE} (ha : PEd X w a ta) (hb : PEd X w b tb) : PTd X w (.Compare a [.NotEq] [b] pos) (dB (dOp strNeD ta tb)) := by
  refine ptd_cmp op_ne (nobehind _ (by decide) (by decide)) (fun x y Q Q' q ⟨i, j, a, b, h⟩ => ⟨i, j, a, b, q _ h⟩) ?_ ha hb
  rintro g W H v u x y Q k dx dy ⟨i, j, rfl, rfl, h⟩
  cases dx
  cases dy
  have e : decide (V.str i = V.str j) = (i == j) := by
    rw [Bool.eq_iff_iff]
    simp
  exact ⟨rfl, by rw [e]; exact h.now k (.bl _)⟩
end Pd
/-! Instances that never change once they are made: as data; their attributes, methods, making. -/
namespace Pd
open PySem PySem.Spec PyProof.Rows L2
/-! ### calls with the guards told -/
section
variable {X : Cx} {CX : CXT} {k : Nat} {f C : Addr} {fd : FuncData} {ps : List Str} {sp : Sp} {dvs : List V} {ds : List Value} {E : XK} {x m : Str} {p pos apos : Pos} {e o : Expr} {es : List Expr} {ta : TE} {t : TA}
/-- o.m(e, ..) -/
theorem pe_methG {pl : Sem Bool} (ho : PE X o ta) (cl : Cls X.K C) (mt : Meth X.K C m f) (F : FnG X.prog X.w X.K X.mg X.base CX k f fd ps sp) (room : Room k X.A) (hG : X.A.guards = some []) (bd : Binds X.K fd ps ds) (dv : Vals dvs ds) (px : Passes CX X E) (args : PA X (e :: es) t)
    (st : starEach (e :: es) X.env = (false, eval e X.env) :: starEach es X.env := by rfl) (bk : (backTo pos (starEach es X.env)).any (·.1) = false := by rfl)
    (tree : eval (.Call (.Attribute o m apos) (e :: es) [] pos) X.env = (do
      let rv ← eval o X.env
      standAt apos.atName
      let (fv, fst) ← holding [rv] (getMethod rv m pl)
      callWith pos fv fst (backTo pos (starEach (e :: es) X.env)) (backToKw pos (keywordEach [] X.env))) := by rfl) :
    PE X (.Call (.Attribute o m apos) (e :: es) [] pos) (tMeth C m sp dvs E ta t) := by
  constructor
  intro pins s σ H Q I pre
  apply PySem.W.methodCall_KW (pl := pl) _ tree
  refine thn (ho.run pins s σ H _ I pre) ?_
  rintro u s1 ⟨y, H1, I1, ry, a, dx, fs, rfl, at_a, no, q⟩
  cases (show u = Value.ref a from ry)
  apply getmeth_ok I1 at_a cl mt no
  refine PySem.W.callWith_K (first := [.ref a]) (h₀ := X.base) I1.ok.mod.kin mt.kp (thn (args.run pos pins s1 σ H1 _ I1 q) ?_) st bk
  rintro us s2 ⟨vs, H2, I2, rel, q2⟩
  exact ⟨I2.kIn, run_G (us := .ref a :: us) (vs := .ref a :: vs) F room hG bd dv px I2 (.cons rfl rel) q2⟩
/-- o.m() -/
theorem pe_methG0 {pl : Sem Bool} (ho : PE X o ta) (cl : Cls X.K C) (mt : Meth X.K C m f) (F : FnG X.prog X.w X.K X.mg X.base CX k f fd ps sp) (room : Room k X.A) (hG : X.A.guards = some []) (bd : Binds X.K fd ps ds) (dv : Vals dvs ds) (px : Passes CX X E)
    (tree : eval (.Call (.Attribute o m apos) [] [] pos) X.env = (do
      let rv ← eval o X.env
      standAt apos.atName
      let (fv, fst) ← holding [rv] (getMethod rv m pl)
      callWith pos fv fst (backTo pos (starEach [] X.env)) (backToKw pos (keywordEach [] X.env))) := by rfl) :
    PE X (.Call (.Attribute o m apos) [] [] pos) (tMeth C m sp dvs E ta tNil) := by
  constructor
  intro pins s σ H Q I pre
  apply PySem.W.methodCall_KW (pl := pl) _ tree
  refine thn (ho.run pins s σ H _ I pre) ?_
  rintro u s1 ⟨y, H1, I1, ry, a, dx, fs, rfl, at_a, no, q⟩
  cases (show u = Value.ref a from ry)
  apply getmeth_ok I1 at_a cl mt no
  exact PySem.W.callWith_K0 (first := [.ref a]) I1.kIn mt.kp (run_G (us := [.ref a]) (vs := [.ref a]) F room hG bd dv px I1 (.cons rfl .nil) q)
/-- C(e, ..) -/
theorem pe_makeG (M : Mk X.K C f) (F : FnG X.prog X.w X.K X.mg X.base CX k f fd ps sp) (room : Room (k + 1) X.A) (hG : X.A.guards = some []) (gl : Gl X x) (at_x : X.mg x = some (.ref C)) (bd : Binds X.K fd ps ds) (dv : Vals dvs ds) (px : Passes CX X E)
    (args : PA X (e :: es) t) (nd : (x == ("__debug__" : Str)) = false := by decide) (st : starEach (e :: es) X.env = (false, eval e X.env) :: starEach es X.env := by rfl) (bk : (backTo pos (starEach es X.env)).any (·.1) = false := by rfl) :
    PE X (.Call (.Name x p) (e :: es) [] pos) (tMake C sp dvs E t) := by
  constructor
  intro pins s σ H Q I pre
  apply wpAny_Call_Name_kw
  apply ld_glob I gl at_x _ nd
  refine PySem.W.callWith_K (h₀ := X.base) I.ok.mod.kin M.kp (thn (args.run pos pins s σ H _ I pre) ?_) st bk
  rintro us s1 ⟨vs, H1, I1, rel, q⟩
  refine ⟨I1.kIn, ?_⟩
  have hq := q (s1.heap.objs.size + 1) s1.heap.objs.size (I1.hok.fresh (Nat.le_succ _)) (I1.hok.fresh (Nat.le_refl _)) (Nat.ne_of_lt (Nat.lt_succ_self _))
  have I2 := Inv.made (C := C) I1
  have r2 : Vals (V.ref (s1.heap.objs.size + 1) :: (vs ++ dvs)) (Value.ref (s1.heap.objs.size + 1) :: (us ++ ds)) := .cons rfl (rel.append dv)
  have len2 : (Value.ref (s1.heap.objs.size + 1) :: us ++ ds).length = ps.length := r2.length.symm.trans (F.many _ _ _ _ hq)
  have gs : (X.A.under (.builtin "type.__call__" ⟨.ref C :: us, []⟩)).guards = some [] := by
    first | exact hG | (simp [Around.under, hG, Code.guards, pushGuards, Code.isGuard, guardIds])
  have all := F.goes _ X.stack _ _ ⟨Value.ref (s1.heap.objs.size + 1) :: us, []⟩ (Value.ref (s1.heap.objs.size + 1) :: (us ++ ds)) _ _ E (room.make C us []) gs (I2.env0.make C us []) (bd _ (Value.ref (s1.heap.objs.size + 1) :: us) I2.kIn len2) r2 hq
  refine wpAny_call (make_map (f := f) I1.kIn M.makes M.init (beq_iff_eq.mp M.fn) (codeAny_mono all ?_))
  intro res s' out
  match res, out with
  | .error er, out => exact px pins σ _ _ er s' I2 out
  | .ok (.ret u), out =>
    obtain ⟨v, H', I3, rv, ev, q3⟩ := I2.after out
    cases ev
    exact ⟨rv, ⟨V.ref (s1.heap.objs.size + 1), H', I3, rfl, q3⟩⟩
  | .ok .next, out => exact out.elim
  | .ok .brk, out => exact out.elim
  | .ok .cont, out => exact out.elim
end
/-! ### an instance as a datum -/
/-- its attributes are these data -/
inductive Flds (K : PySem.W.Frag) (H : Hp) : List (Str × V) → List (Str × Da) → Prop
  | nil : Flds K H [] []
  | cons {x : Str} {v : V} {d : Da} {us : List (Str × V)} {fs : List (Str × Da)} : Dv K none H v d → Flds K H us fs → Flds K H ((x, v) :: us) ((x, d) :: fs)
def insP (K : PySem.W.Frag) (C : Addr) (fs : List (Str × Da)) (H : Hp) (v : V) : Prop := ∃ a dx us, v = .ref a ∧ H a = some (.ins C dx us) ∧ Flds K H us fs
def insD (K : PySem.W.Frag) (C : Addr) (fs : List (Str × Da)) : Da := .fix (insP K C fs)
def noLf : List (Str × Da) → Bool
  | [] => true
  | (_, d) :: fs => noL d && noLf fs
theorem Flds.sees {K : PySem.W.Frag} {H H' : Hp} (e : Sees H H') : ∀ {us : List (Str × V)} {fs : List (Str × Da)}, noLf fs = true → Flds K H us fs → Flds K H' us fs
  | _, _, _, .nil => .nil
  | _, _, n, .cons h t => by
    rw [noLf, Bool.and_eq_true] at n
    exact .cons (Dv.sees e _ _ n.1 h) (Flds.sees e n.2 t)
theorem Flds.get {K : PySem.W.Frag} {H : Hp} {f : Str} : ∀ {us : List (Str × V)} {fs : List (Str × Da)} {d : Da}, Flds K H us fs → fs.lookup f = some d → ∃ v, us.lookup f = some v ∧ Dv K none H v d
  | _, _, _, .nil, h => by cases h
  | _, _, d, .cons (x := x) (v := v) h t, e => by
    rw [List.lookup_cons] at e
    rw [List.lookup_cons]
    cases q : f == x with
    | true =>
      rw [q] at e
      cases e
      exact ⟨v, rfl, h⟩
    | false =>
      rw [q] at e
      exact Flds.get t e
theorem Flds.no {K : PySem.W.Frag} {H : Hp} {f : Str} : ∀ {us : List (Str × V)} {fs : List (Str × Da)}, Flds K H us fs → fs.lookup f = none → us.lookup f = none
  | _, _, .nil, _ => rfl
  | _, _, .cons (x := x) h t, e => by
    rw [List.lookup_cons] at e
    rw [List.lookup_cons]
    cases q : f == x with
    | true => rw [q] at e; cases e
    | false =>
      rw [q] at e
      exact Flds.no t e
theorem insD_of {K : PySem.W.Frag} {g : Option Addr} {H : Hp} {a C dx : Addr} {us : List (Str × V)} {fs : List (Str × Da)} (n : noLf fs = true) (h : H a = some (.ins C dx us)) (t : Flds K H us fs) : Dv K g H (.ref a) (insD K C fs) :=
  .fix fun H' s => ⟨a, dx, us, rfl, s a _ h (fun _ z => by cases z) (fun _ z => by cases z), t.sees s n⟩
theorem insD_at {K : PySem.W.Frag} {g : Option Addr} {H : Hp} {v : V} {C : Addr} {fs : List (Str × Da)} (h : Dv K g H v (insD K C fs)) : ∃ a dx us, v = .ref a ∧ H a = some (.ins C dx us) ∧ Flds K H us fs := by
  cases h with
  | fix q => exact q H (Sees.sm fun _ _ z => z)
section
variable {X : Cx} {w : Wd} {o e : Expr} {es : List Expr} {to : TDE} {t : TDA} {f m : Str} {pos apos : Pos}
/-- o.f -/
def dFld (K : PySem.W.Frag) (to : TDE) (f : Str) : TDE := fun r Q => to r fun d => ∃ C fs x, d = insD K C fs ∧ Cls K C ∧ NoAttr K C f ∧ fs.lookup f = some x ∧ noL x = true ∧ Q x
theorem ped_fldI (ho : PEd X w o to) (hb : attributeBase o f X.env (eval o X.env) = eval o X.env := by rfl) : PEd X w (.Attribute o f pos) (dFld X.K to f) := by
  refine ⟨weE (pe_fld ho.pe hb) ?_, fun r Q Q' q h => ho.mo _ _ _ (fun d ⟨C, fs, x, a, b, c, d, n, z⟩ => ⟨C, fs, x, a, b, c, d, n, q _ z⟩) h⟩
  rintro σ H Q ⟨W, own, r, S, h⟩
  refine go1 ho S h fun d v H1 e1 k1 d1 ⟨C, fs, x, ed, cl, na, lk, n, z⟩ => ?_
  subst ed
  obtain ⟨a, dx, us, rfl, at_a, fl⟩ := insD_at d1
  obtain ⟨u, lu, du⟩ := fl.get lk
  exact ⟨a, C, dx, us, u, rfl, (hid_some at_a).2, cl, na, lu, z u H1 e1 k1 (Dv.sees (Sees.sm fun _ _ z => z) _ _ n du)⟩
/-- a method whose promise is known -/
structure CalldM (P : Program) (wd : World) (K : PySem.W.Frag) (mg : Str → Option Value) (base : Heap) (k : Nat) (C : Addr) (m : Str) (ps : List Str) (p : DSp) : Prop where
  ex : ∃ f fd, FnG P wd K mg base CX0 k f fd ps (liP K p) ∧ Meth K C m f ∧ Binds K fd ps []
  cl : Cls K C
  mp : MoP p
theorem ped_methI {k : Nat} {C : Addr} {ps : List Str} {p : DSp} {pl : Sem Bool} (c : CalldM X.prog X.w X.K X.mg X.base k C m ps p) (room : Room k X.A) (hG : X.A.guards = some []) (ho : PEd X w o to) (args : PAd X w (e :: es) t)
    (st : starEach (e :: es) X.env = (false, eval e X.env) :: starEach es X.env := by rfl) (bk : (backTo pos (starEach es X.env)).any (·.1) = false := by rfl)
    (tree : eval (.Call (.Attribute o m apos) (e :: es) [] pos) X.env = (do
      let rv ← eval o X.env
      standAt apos.atName
      let (fv, fst) ← holding [rv] (getMethod rv m pl)
      callWith pos fv fst (backTo pos (starEach (e :: es) X.env)) (backToKw pos (keywordEach [] X.env))) := by rfl) :
    PEd X w (.Call (.Attribute o m apos) (e :: es) [] pos) (fun r Q => to r fun d => (∃ fs, d = insD X.K C fs ∧ fs.lookup m = none) ∧ t r fun ds => p (d :: ds) Q) := by
  obtain ⟨⟨f, fd, F, mt, bd⟩, cl, mp⟩ := c
  refine ⟨weE (pe_methG (E := E0) ho.pe cl mt F room hG bd .nil pass0 args.pa st bk tree) ?_, fun r Q Q' q h => ho.mo _ _ _ (fun d z => ⟨z.1, args.mo _ _ _ (fun ds z => mp _ _ _ q z) z.2⟩) h⟩
  rintro σ H Q ⟨W, own, r, S, h⟩
  refine go1 ho S h fun d v H1 e1 k1 d1 z => ?_
  obtain ⟨⟨fs, ed, lk⟩, z⟩ := z
  subst ed
  obtain ⟨a, dx, us, rfl, at_a, fl⟩ := insD_at d1
  refine ⟨a, dx, us, rfl, (hid_some at_a).2, fl.no lk, ?_⟩
  refine goA args (S.ext e1 k1) z fun xs vs H2 e2 k2 d2 z => ?_
  rw [List.append_nil]
  exact ⟨w.g, W, _, k2, .cons (Dv.mono (e2.hid k1.gW) _ _ d1) d2, mp _ _ _ (fun x q v H' e k dv => q v H' ((e1.trans e2).trans e) k dv) z⟩
theorem ped_methI0 {k : Nat} {C : Addr} {ps : List Str} {p : DSp} {pl : Sem Bool} (c : CalldM X.prog X.w X.K X.mg X.base k C m ps p) (room : Room k X.A) (hG : X.A.guards = some []) (ho : PEd X w o to)
    (tree : eval (.Call (.Attribute o m apos) [] [] pos) X.env = (do
      let rv ← eval o X.env
      standAt apos.atName
      let (fv, fst) ← holding [rv] (getMethod rv m pl)
      callWith pos fv fst (backTo pos (starEach [] X.env)) (backToKw pos (keywordEach [] X.env))) := by rfl) :
    PEd X w (.Call (.Attribute o m apos) [] [] pos) (fun r Q => to r fun d => (∃ fs, d = insD X.K C fs ∧ fs.lookup m = none) ∧ p [d] Q) := by
  obtain ⟨⟨f, fd, F, mt, bd⟩, cl, mp⟩ := c
  refine ⟨weE (pe_methG0 (E := E0) ho.pe cl mt F room hG bd .nil pass0 tree) ?_, fun r Q Q' q h => ho.mo _ _ _ (fun d z => ⟨z.1, mp _ _ _ q z.2⟩) h⟩
  rintro σ H Q ⟨W, own, r, S, h⟩
  refine go1 ho S h fun d v H1 e1 k1 d1 z => ?_
  obtain ⟨⟨fs, ed, lk⟩, z⟩ := z
  subst ed
  obtain ⟨a, dx, us, rfl, at_a, fl⟩ := insD_at d1
  refine ⟨a, dx, us, rfl, (hid_some at_a).2, fl.no lk, ?_⟩
  exact ⟨w.g, W, _, k1, .cons d1 .nil, mp _ _ _ (fun x q v H' e k dv => q v H' (e1.trans e) k dv) z⟩
end
end Pd
/-! An instance is made: C(..) with an own __init__ that sets its attributes. -/
namespace Pd
open PySem PySem.Spec PyProof.Rows L2
mutual
/-- no instance within -/
def noF : Da → Bool
  | .fix _ => false
  | .lst xs => noFs xs
  | .tup xs => noFs xs
  | .tpw xs => noFs xs
  | .dct kvs => noFk kvs
  | .non => true
  | .bl _ => true
  | .int _ => true
  | .str _ => true
  | .bag => true
  | .raw _ => true
def noFs : List Da → Bool
  | [] => true
  | x :: xs => noF x && noFs xs
def noFk : List (Key × Da) → Bool
  | [] => true
  | (_, x) :: xs => noF x && noFk xs
end
/-- all but what is at x stays -/
def But (x : Addr) (H H' : Hp) : Prop := ∀ a o, a ≠ x → H a = some o → H' a = some o
section
variable {K : PySem.W.Frag} {g : Option Addr} {H H' : Hp} {x : Addr}
theorem not_ins {a : Addr} {o : HO} (hx : ∃ C dx us, H x = some (.ins C dx us)) (h : H a = some o) (n : ∀ C dx us, o ≠ .ins C dx us) : a ≠ x := fun z => by
  obtain ⟨C, dx, us, q⟩ := hx
  rw [z, q] at h
  exact n C dx us (Option.some.inj h).symm
theorem sqt_but {a : Addr} {xs : List V} (hx : ∃ C dx us, H x = some (.ins C dx us)) (e : But x H H') (h : SqT K H a xs) : SqT K H' a xs := by
  rcases h with (h | ⟨o, h⟩) | h
  · exact .inl (.inl (e _ _ (not_ins hx h fun _ _ _ z => by cases z) h))
  · exact .inl (.inr ⟨o, e _ _ (not_ins hx h fun _ _ _ z => by cases z) h⟩)
  · exact .inr h
theorem tups_but {a : Addr} {xs : List V} (hx : ∃ C dx us, H x = some (.ins C dx us)) (e : But x H H') (h : TupS K H a xs) : TupS K H' a xs := by
  rcases h with ⟨o, h, n⟩ | h
  · exact .inl ⟨o, e _ _ (not_ins hx h fun _ _ _ z => by cases z) h, n⟩
  · exact .inr h
mutual
theorem Dv.but (hx : ∃ C dx us, H x = some (.ins C dx us)) (e : But x H H') : ∀ (d : Da) (v : V), noF d = true → Dv K g H v d → Dv K g H' v d
  | .non, _, _, h => by cases h; exact .non
  | .bl _, _, _, h => by cases h; exact .bl _
  | .int _, _, _, h => by cases h; exact .int _
  | .str _, _, _, h => by cases h; exact .str _
  | .lst ds, _, n, h => by
    rw [noF] at n
    cases h with
    | lst h1 h2 => exact .lst (e _ _ (not_ins hx h1 fun _ _ _ z => by cases z) h1) (DvAll.but hx e ds _ n h2)
  | .tup ds, _, n, h => by
    rw [noF] at n
    cases h with
    | tup h1 h2 => exact .tup (tups_but hx e h1) (DvAll.but hx e ds _ n h2)
  | .tpw ds, _, n, h => by
    rw [noF] at n
    cases h with
    | tpw h1 h2 => exact .tpw (sqt_but hx e h1) (DvAll.but hx e ds _ n h2)
  | .dct ds, _, n, h => by
    rw [noF] at n
    cases h with
    | dct h1 h2 => exact .dct (e _ _ (not_ins hx h1 fun _ _ _ z => by cases z) h1) (KvAll.but hx e ds _ n h2)
  | .bag, _, _, h => by
    cases h with
    | bag q => exact .bag q
  | .raw _, _, _, h => by cases h; exact .raw
  | .fix _, _, n, _ => by rw [noF] at n; cases n
theorem DvAll.but (hx : ∃ C dx us, H x = some (.ins C dx us)) (e : But x H H') : ∀ (ds : List Da) (vs : List V), noFs ds = true → DvAll K g H vs ds → DvAll K g H' vs ds
  | [], _, _, h => by cases h; exact .nil
  | d :: ds, _, n, h => by
    rw [noFs, Bool.and_eq_true] at n
    cases h with
    | cons h1 h2 => exact .cons (Dv.but hx e d _ n.1 h1) (DvAll.but hx e ds _ n.2 h2)
theorem KvAll.but (hx : ∃ C dx us, H x = some (.ins C dx us)) (e : But x H H') : ∀ (ds : List (Key × Da)) (vs : List (Key × V)), noFk ds = true → KvAll K g H vs ds → KvAll K g H' vs ds
  | [], _, _, h => by cases h; exact .nil
  | (k, d) :: ds, _, n, h => by
    rw [noFk, Bool.and_eq_true] at n
    cases h with
    | cons h1 h2 => exact .cons (Dv.but hx e d _ n.1 h1) (KvAll.but hx e ds _ n.2 h2)
end
/-- slots without instances -/
def calmS : Sl → Prop
  | .no => True
  | .dat d => noF d = true
  | .own _ => False
  | .reg _ => False
theorem Stt.setIns {w : Wd} {W : Addr → Bool} {own : Ow} {r : En} {σ : L2.St} {C dx : Addr} {us us' : List (Str × V)} (S : Stt K w W own r σ H) (h0 : w.H0 x = none) (hx : H x = some (.ins C dx us)) (Wx : W x = false) (calm : ∀ s ∈ r, calmS s) : Stt K w W own r σ (upd H x (.ins C dx us')) := by
  have but : But x (hid W H) (hid W (upd H x (.ins C dx us'))) := fun a o n q => by
    obtain ⟨q1, q2⟩ := hid_some q
    rw [hid_no q1, upd_ne n]
    exact q2
  have hx' : ∃ C dx us, hid W H x = some (.ins C dx us) := ⟨C, dx, us, by rw [hid_no Wx]; exact hx⟩
  have nl : ∀ {a : Addr} {xs : List V}, H a = some (.lst xs) → a ≠ x := fun q z => by rw [z, hx] at q; cases q
  refine ⟨⟨fun b hb => ?_, S.ok.gW, fun b hb => ?_⟩, ⟨fun b o n hb => ?_, fun b xs hb hq => ?_⟩, S.w0, S.g0, S.oW, fun i j a q1 q2 => ⟨(S.inj i j a q1 q2).1, ?_⟩, S.len, fun i d h n => ?_⟩
  · obtain ⟨y1, y2, y3, c, cs, q1, q2⟩ := S.ok.bag b hb
    exact ⟨y1, y2, y3, c, cs, by rw [upd_ne (nl q1)]; exact q1, but _ _ (nl (hid_some q2).2) q2⟩
  · obtain ⟨o, q⟩ := S.ok.al b hb
    by_cases z : b = x
    · exact ⟨_, by rw [z]; exact upd_same⟩
    · exact ⟨o, by rw [upd_ne z]; exact q⟩
  · rw [upd_ne (ne_of_none hb h0)]
    exact S.base b o n hb
  · obtain ⟨ys, q1, q2⟩ := S.base.last b xs hb hq
    exact ⟨ys, by rw [upd_ne (nl q1)]; exact q1, q2⟩
  · rcases (S.inj i j a q1 q2).2 with ⟨xs, q⟩ | ⟨xs, q⟩
    · exact .inl ⟨xs, by rw [upd_ne (nl q)]; exact q⟩
    · refine .inr ⟨xs, ?_⟩
      rw [upd_ne fun z => by rw [z, hx] at q; cases q]
      exact q
  · obtain ⟨v, q1, q2⟩ := S.sl i d h n
    have cd := calm d (List.mem_of_getElem? h)
    cases d with
    | no => exact absurd rfl n
    | dat d => exact ⟨v, q1, Dv.but hx' but _ _ cd q2⟩
    | own fs => exact cd.elim
    | reg ds => exact cd.elim
end
/-- a raise that is never reached -/
theorem psd_raise {X : Cx} {w : Wd} {e c : Option Expr} {pos : Pos} : PSd X w (.Raise e c pos) (fun _ _ => False) :=
  ⟨⟨fun _ _ _ _ _ _ ⟨_, _, _, _, h⟩ => h.elim⟩, fun _ _ _ _ h => h.elim⟩
/-- what an __init__ makes of a new instance -/
def liI0 (K : PySem.W.Frag) (C : Addr) (p : List Da → (List (Str × Da) → Prop) → Prop) : Sp := fun vs H Q _ => ∃ (g : Option Addr) (W : Addr → Bool) (ds : List Da) (x dx : Addr) (vs' : List V), vs = .ref x :: vs' ∧ H x = some (.ins C dx []) ∧ W x = false ∧ OkW K g W H ∧ DvAll K g (hid W H) vs' ds ∧
  p ds fun fs => ∀ us H', Ext g (cutAt x H) (cutAt x H') → OkW K g W H' → H' x = some (.ins C dx us) → Flds K (hid W H') us fs → Q .non H'
structure CalldI (P : Program) (wd : World) (K : PySem.W.Frag) (mg : Str → Option Value) (base : Heap) (k : Nat) (c : Str) (C : Addr) (ps : List Str) (p : List Da → (List (Str × Da) → Prop) → Prop) : Prop where
  ex : ∃ f fd, FnG P wd K mg base CX0 k f fd ps (liI0 K C p) ∧ Mk K C f ∧ mg c = some (.ref C) ∧ Binds K fd ps []
  mp : ∀ ds Q Q', (∀ fs, Q fs → Q' fs) → p ds Q → p ds Q'
section
variable {X : Cx} {w : Wd} {e : Expr} {es : List Expr} {t : TDA} {pos q : Pos}
theorem ped_makeI {k : Nat} {c : Str} {C : Addr} {ps : List Str} {p : List Da → (List (Str × Da) → Prop) → Prop} (ci : CalldI X.prog X.w X.K X.mg X.base k c C ps p) (room : Room (k + 1) X.A) (hG : X.A.guards = some []) (args : PAd X w (e :: es) t) (gl : Gl X c := by rfl) (nd : (c == ("__debug__" : Str)) = false := by decide)
    (st : starEach (e :: es) X.env = (false, eval e X.env) :: starEach es X.env := by rfl) (bk : (backTo pos (starEach es X.env)).any (·.1) = false := by rfl) :
    PEd X w (.Call (.Name c q) (e :: es) [] pos) (fun r Q => t r fun ds => p ds fun fs => noLf fs = true ∧ Q (insD X.K C fs)) := by
  obtain ⟨⟨f, fd, F, M, mc, bd⟩, mp⟩ := ci
  refine ⟨weE (pe_makeG (E := E0) M F room hG gl mc bd .nil pass0 args.pa nd st bk) ?_, fun r Q Q' q h => args.mo _ _ _ (fun ds z => mp _ _ _ (fun fs z => ⟨z.1, q _ z.2⟩) z) h⟩
  rintro σ H Q ⟨W, own, r, S, h⟩
  refine goA args S h fun xs vs H1 e1 k1 d1 z => ?_
  intro x dx nx ndx ne
  rw [List.append_nil]
  obtain ⟨n1, n2, n3, n4⟩ := k1.new (o := .own x) ndx
  have nx2 : upd H1 dx (.own x) x = none := by rw [upd_ne (Ne.symm ne)]; exact nx
  obtain ⟨m1, m2, m3, m4⟩ := n2.new (o := .ins C dx []) nx2
  have Wx : W x = false := (hid_some m4).1
  refine ⟨w.g, W, xs, x, dx, vs, rfl, upd_same, Wx, m2, DvAll.mono m3 _ _ (DvAll.mono n3 _ _ d1), mp _ _ _ (fun fs z us H' e' k' hx fl => ?_) z⟩
  refine ⟨rfl, z.2 _ H' ?_ k' (insD_of z.1 (by rw [hid_no Wx]; exact hx) fl)⟩
  have ea : Ext w.g H1 (cutAt x H') := by
    have c1 : Ext w.g H1 (cutAt x (upd (upd H1 dx (.own x)) x (.ins C dx []))) := Ext.of fun b o hb => by
      have nb : b ≠ x := ne_of_none hb nx
      rw [cutAt_ne nb, upd_ne nb, upd_ne (ne_of_none hb ndx)]
      exact hb
    exact c1.trans e'
  refine e1.trans (ea.trans (Ext.of fun b o hb => ?_))
  by_cases nb : b = x
  · rw [nb, cutAt_same] at hb; cases hb
  · rwa [cutAt_ne nb] at hb
end
end Pd
/-! An __init__ that looks at what it is handed, then sets two attributes. -/
namespace Pd
open PySem PySem.Spec PyProof.Rows L2
/-- what is promised of the slots when the attributes are set: d1, then d2 -/
def dInit (a b : Str) (te1 te2 : TDE) (Q : List (Str × Da) → Prop) : En → Prop := fun r => (∃ v, r[0]? = some (.dat (.raw v))) ∧ (∀ s ∈ r, calmS s) ∧ te1 r fun d1 => te2 r fun d2 => (noL d1 = true ∧ noF d1 = true) ∧ (noL d2 = true ∧ noF d2 = true) ∧ Q [(a, d1), (b, d2)]
theorem putF_two {a b : Str} {u v : V} (h : (a == b) = false) : putF b v (putF a u []) = [(a, u), (b, v)] := by
  have e : a ≠ b := fun z => by rw [z] at h; simp at h
  simp [putF, e, Ne.symm e]
theorem defI2 {P : Program} {wd : World} {K : PySem.W.Frag} {mg : Str → Option Value} {base : Heap} {nm qual : Str} {st : Stmt} {f C : Addr} {fd : FuncData} {N ps : List Str} {k : Nat} {p : List Da → (List (Str × Da) → Prop) → Prop} {s1 s2 : Stmt} {a b : Str} {e1 e2 : Expr} {p1 p2 q1 q2 r1 r2 : Pos}
    (F : Fun K nm qual st f fd) (S : FnScope N ("self" :: ps) (defScope st)) (body : defBody st = [s1, s2, .Assign [.Attribute (.Name "self" p1) a q1] e1 r1, .Assign [.Attribute (.Name "self" p2) b q2] e2 r2])
    (N0 : N[0]? = some ("self" : Str)) (ab : (a == b) = false) (cl : Cls K C) (na : NoAttr K C a) (nb : NoAttr K C b) (len : ∀ ds Q, p ds Q → ds.length = ps.length) (mp : ∀ ds Q Q', (∀ fs, Q fs → Q' fs) → p ds Q → p ds Q')
    (inside : ∀ (cdv : Value) (A : Around) (outer : List Env) (s0 : Shared) (H : Hp) (E : XK) (w : Wd) (x : Addr) (ds : List Da) (Q : List (Str × Da) → Prop), Room k (A.deeper (envOfC qual (defScope st) s0.heap.objs.size f cdv)) → A.guards = some [] → p ds Q →
      ∃ t1 t2 te1 te2, PSd (cxOf CX0 P wd K mg base N qual (defScope st) f cdv A outer s0 H E).nox w s1 t1 ∧ PSd (cxOf CX0 P wd K mg base N qual (defScope st) f cdv A outer s0 H E).nox w s2 t2 ∧
        PEd (cxOf CX0 P wd K mg base N qual (defScope st) f cdv A outer s0 H E).nox w e1 te1 ∧ PEd (cxOf CX0 P wd K mg base N qual (defScope st) f cdv A outer s0 H E).nox w e2 te2 ∧
        Vis (cxOf CX0 P wd K mg base N qual (defScope st) f cdv A outer s0 H E).nox.env.scope "self" ∧
        swapsWith e1 (some (.Attribute (.Name "self" p1) a q1)) r1.line (cxOf CX0 P wd K mg base N qual (defScope st) f cdv A outer s0 H E).nox.env = pure false ∧ swapsWith e2 (some (.Attribute (.Name "self" p2) b q2)) r2.line (cxOf CX0 P wd K mg base N qual (defScope st) f cdv A outer s0 H E).nox.env = pure false ∧
        t1 { nx := t2 { nx := fun r => r[0]? = some (.dat (.raw (.ref x))) ∧ dInit a b te1 te2 Q r, rt := fun _ => False, bk := fun _ => False, ct := fun _ => False }, rt := fun _ => False, bk := fun _ => False, ct := fun _ => False } (startD N (.raw (.ref x) :: ds))) :
    FnG P wd K mg base CX0 (k + 1) f fd ("self" :: ps) (liI0 K C p) := by
  refine FunG.ok F S ?_ ?_
  · rintro vs H Q E ⟨g, W, ds, x, dx, vs', rfl, _, _, _, dv, h⟩
    rw [List.length_cons, List.length_cons, dv.len, len _ _ h]
  · rintro cdv A outer s0 H vs Q E room hG ⟨g, W, ds, x, dx, vs', rfl, hx, Wx, k1, dv, h⟩
    obtain ⟨t1, t2, te1, te2, P1, P2, E1, E2, vis, sw1, sw2, sem⟩ := inside cdv A outer s0 H E ⟨cutAt x H, g, W⟩ x ds _ room hG h
    have S0 := start_stt (N := N) (vs := .ref x :: vs') (ds := .raw (.ref x) :: ds) k1 (.cons .raw dv)
    have gx : g ≠ some x := fun z => by rw [k1.gW x z] at Wx; cases Wx
    have base0 : Ext g (cutAt x H) H := Ext.of fun b o hb => by
      by_cases z : b = x
      · rw [z, cutAt_same] at hb; cases hb
      · rwa [cutAt_ne z] at hb
    have S1 : Stt K ⟨cutAt x H, g, W⟩ W (fun _ _ => False) (startD N (.raw (.ref x) :: ds)) (L2.start N (.ref x :: vs')) H := ⟨S0.ok, base0, fun _ z => z, k1.gW, fun _ _ z => z.elim, fun _ _ _ z => z.elim, S0.len, S0.sl⟩
    refine ⟨_, by rw [body]; exact pss_cons P1.ps (pss_cons P2.ps (pss_cons (ps_fld (pv 0 N0 vis (by decide) (by decide)) E1.pe sw1) (pss_one (ps_fld (pv 0 N0 vis (by decide) (by decide)) E2.pe sw2)))), ?_⟩
    refine ⟨W, _, _, S1, P1.mo _ _ _ ⟨?_, fun _ (q : False) => q.elim, fun _ (q : False) => q.elim, fun _ (q : False) => q.elim⟩ sem⟩
    intro r z W1 own1 σ1 H1 g1 T1
    refine ⟨W1, own1, r, T1, P2.mo _ _ _ ⟨?_, fun _ (q : False) => q.elim, fun _ (q : False) => q.elim, fun _ (q : False) => q.elim⟩ z⟩
    rintro r ⟨z0, _, calm, z⟩ W2 own2 σ2 H2 g2 T2
    have gr := g1.trans g2
    have hx2 : H2 x = some (.ins C dx []) := gr.1 x _ gx Wx hx
    have Wx2 : W2 x = false := by
      cases y : W2 x with
      | false => rfl
      | true =>
        rcases gr.2.2 x y with q | q
        · rw [q] at Wx; cases Wx
        · rw [hx] at q; cases q
    have self_ : σ2[0]? = some (some (.ref x)) := by
      obtain ⟨v, hv, dx'⟩ := T2.dat z0
      cases dx'
      exact hv
    have but : ∀ {Hh : Hp} {o : HO}, But x (hid W2 Hh) (hid W2 (upd Hh x o)) := fun {Hh o} c u n q => by
      obtain ⟨q1, q2⟩ := hid_some q
      rw [hid_no q1, upd_ne n]
      exact q2
    have at_ : ∀ {Hh : Hp} {us : List (Str × V)}, Hh x = some (.ins C dx us) → ∃ C dx us, hid W2 Hh x = some (.ins C dx us) := fun {Hh us} q => ⟨C, dx, us, by rw [hid_no Wx2]; exact q⟩
    refine go1 E1 T2 z fun d1 v1 H3 e3 k3 dv1 z => ?_
    have hx3 : H3 x = some (.ins C dx []) := e3 x _ gx hx2
    refine ⟨.ref x, self_, x, C, dx, [], rfl, hx3, cl, na, by decide, ?_⟩
    have T3 := (T2.ext e3 k3).setIns (us' := putF a v1 []) cutAt_same hx3 Wx2 calm
    refine go1 E2 T3 z fun d2 v2 H5 e5 k5 dv2 z => ?_
    have hx5 : H5 x = some (.ins C dx (putF a v1 [])) := e5 x _ gx upd_same
    refine ⟨.ref x, self_, x, C, dx, putF a v1 [], rfl, hx5, cl, nb, by show 1 < 1000; decide, ?_⟩
    have T5 := (T3.ext e5 k5).setIns (us' := putF b v2 (putF a v1 [])) cutAt_same hx5 Wx2 calm
    obtain ⟨⟨nl1, nf1⟩, ⟨nl2, nf2⟩, z⟩ := z
    refine z [(a, v1), (b, v2)] _ ⟨fun c u n hc => ?_, fun c xs hc hq => ?_⟩ T5.ok0 (by rw [putF_two ab]; exact upd_same) ?_
    · have nc : c ≠ x := fun y => by rw [y, cutAt_same] at hc; cases hc
      rw [cutAt_ne nc]
      exact T5.base c u n hc
    · have nc : c ≠ x := fun y => gx (y ▸ hc)
      rw [cutAt_ne nc]
      exact T5.base.last c xs hc hq
    · have w1 := Dv.but (at_ hx5) (but (o := .ins C dx (putF b v2 (putF a v1 [])))) d1 v1 nf1 (Dv.mono (e5.hid T3.ok.gW) _ _ (Dv.but (at_ hx3) (but (o := .ins C dx (putF a v1 []))) d1 v1 nf1 dv1))
      have w2 := Dv.but (at_ hx5) (but (o := .ins C dx (putF b v2 (putF a v1 [])))) d2 v2 nf2 dv2
      have sm := Sees.sm (hid_le (H := upd H5 x (.ins C dx (putF b v2 (putF a v1 [])))) T5.w0)
      exact .cons (Dv.sees sm _ _ nl1 w1) (.cons (Dv.sees sm _ _ nl2 w2) .nil)
end Pd
/-! Methods by their bodies; properties read. -/
namespace Pd
open PySem PySem.Spec PyProof.Rows L2
/-- a method of the class at C, as the text has it -/
structure MethAt (K : PySem.W.Frag) (C : Addr) (m qual : Str) (st : Stmt) (ps : List Str) : Prop where
  ex : ∃ f fd, Fun K m qual st f fd ∧ Meth K C m f ∧ Binds K fd ps []
theorem defM {P : Program} {wd : World} {K : PySem.W.Frag} {mg : Str → Option Value} {base : Heap} {m qual : Str} {st : Stmt} {C : Addr} {N ps : List Str} {k : Nat} {p : DSp} (At : MethAt K C m qual st ps) (cl : Cls K C)
    (S : FnScope N ps (defScope st)) (len : ∀ ds Q, p ds Q → ds.length = ps.length) (mp : MoP p)
    (inside : ∀ (f : Addr) (cdv : Value) (A : Around) (outer : List Env) (s0 : Shared) (H : Hp) (E : XK) (w : Wd) (ds : List Da) (Q : Da → Prop), Room k (A.deeper (envOfC qual (defScope st) s0.heap.objs.size f cdv)) → A.guards = some [] → p ds Q →
      ∃ t, PSsd (cxOf CX0 P wd K mg base N qual (defScope st) f cdv A outer s0 H E).nox w (defBody st) t ∧ t { nx := fun _ => Q .non, rt := Q } (startD N ds)) :
    CalldM P wd K mg base (k + 1) C m ps p := by
  obtain ⟨f, fd, F, mt, bd⟩ := At.ex
  exact ⟨⟨f, fd, defD F S len mp (inside f), mt, bd⟩, cl, mp⟩
/-- a property whose getter's promise is known -/
structure CalldP (P : Program) (wd : World) (K : PySem.W.Frag) (mg : Str → Option Value) (base : Heap) (k : Nat) (C : Addr) (m : Str) (p : DSp) : Prop where
  ex : ∃ a f fd, FnG P wd K mg base CX0 k f fd ["self"] (liP K p) ∧ PropOf K C m a f ∧ Binds K fd ["self"] []
  cl : Cls K C
  mp : MoP p
section
variable {X : Cx} {CX : CXT} {k : Nat} {C p g : Addr} {f : Str} {fd : FuncData} {ps : List Str} {sp : Sp} {dvs : List V} {ds : List Value} {E : XK} {o : Expr} {pos : Pos} {ta : TE}
theorem pe_propG (ho : PE X o ta) (cl : Cls X.K C) (pr : PropOf X.K C f p g) (F : FnG X.prog X.w X.K X.mg X.base CX k g fd ps sp) (room : Room (k + 1) X.A) (hG : X.A.guards = some []) (bd : Binds X.K fd ps ds) (dv : Vals dvs ds) (px : Passes CX X.nox E)
    (ab : attributeBase o f X.env (eval o X.env) = eval o X.env) : PE X (.Attribute o f pos) (tProp C sp dvs E ta) := by
  constructor
  intro pins s σ H Q I pre
  apply attr_of ab
  refine thn (ho.run pins s σ H _ I pre) ?_
  rintro u s1 ⟨y, H1, I1, ry, a, dx, fs, rfl, at_a, q⟩
  cases (show u = Value.ref a from ry)
  obtain ⟨_, O, _⟩ := ins_get I1.hok at_a
  obtain ⟨_, J, _⟩ := O.look
  obtain ⟨_, recs⟩ := pr.rec_
  have I2 := I1.tok (s1.toks + 1)
  have plain := PySem.W.plainGet_of (cl.get f)
  have some_ : (PySem.W.clsIn X.K C).isSome = true := by
    obtain ⟨cd, hc, _⟩ := PySem.W.any_some cl.hd
    rw [hc]
    rfl
  have rel : Vals (V.ref a :: dvs) (Value.ref a :: ds) := .cons rfl dv
  have len2 : ([Value.ref a] ++ ds).length = ps.length := rel.length.symm.trans (F.many _ _ _ _ q)
  have all := F.goes X.A.in1 X.stack { s1 with toks := s1.toks + 1 } H1 ⟨[.ref a], []⟩ (.ref a :: ds) (.ref a :: dvs) Q E room.in1 hG I2.env0.in1 (bd _ [.ref a] I2.kIn len2) rel q
  refine PySem.W.get_bind I1.kIn J plain.1 (PySem.W.findObj_data some_ pr.at_ pr.get pr.tak) plain.2 (wpAny_call (PySem.W.prop_get (s := { s1 with toks := s1.toks + 1 }) I1.kIn recs (codeAny_mono all ?_)))
  intro res s' out
  match res, out with
  | .error er, out => exact (px pins σ H1 { s1 with toks := s1.toks + 1 } er s' (I2.wish _) out).elim
  | .ok (.ret u), out =>
    obtain ⟨v, H', I3, rv, q3⟩ := I2.after out
    show wpAny _ _ (handedOut u) _ _ _
    rw [PySem.W.handedOut_of (handed_of rv)]
    exact wpAny_pure ⟨v, H', I3, rv, q3⟩
  | .ok .next, out => exact out.elim
  | .ok .brk, out => exact out.elim
  | .ok .cont, out => exact out.elim
theorem ped_propI {w : Wd} {to : TDE} {q : DSp} (c : CalldP X.prog X.w X.K X.mg X.base k C f q) (room : Room (k + 1) X.A) (hG : X.A.guards = some []) (ho : PEd X w o to) (ab : attributeBase o f X.env (eval o X.env) = eval o X.env := by rfl) :
    PEd X w (.Attribute o f pos) (fun r Q => to r fun d => (∃ fs, d = insD X.K C fs) ∧ q [d] Q) := by
  obtain ⟨⟨p, g, fd, F, pr, bd⟩, cl, mp⟩ := c
  refine ⟨weE (pe_propG (E := E0) ho.pe cl pr F room hG bd .nil pass0 ab) ?_, fun r Q Q' h z => ho.mo _ _ _ (fun d z => ⟨z.1, mp _ _ _ h z.2⟩) z⟩
  rintro σ H Q ⟨W, own, r, S, h⟩
  refine go1 ho S h fun d v H1 e1 k1 d1 z => ?_
  obtain ⟨⟨fs, ed⟩, z⟩ := z
  subst ed
  obtain ⟨a, dx, us, rfl, at_a, fl⟩ := insD_at d1
  exact ⟨a, dx, us, rfl, (hid_some at_a).2, w.g, W, _, k1, .cons d1 .nil, mp _ _ _ (fun x q v H' e k dv => q v H' (e1.trans e) k dv) z⟩
end
end Pd
/-! A walk over an instance whose own __iter__ gives iter(a tuple of its own). -/
namespace Pd
open PySem PySem.Spec PyProof.Rows L2
/-! ### a tuple's iterator -/
def TtO (l it : Addr) (i : Nat) : HO := .ext fun h => h.IsTupleIter it l i
theorem ttO_ok {P : Program} {w : World} {H : Hp} {h : Heap} {l it : Addr} {i : Nat} (e : h.IsTupleIter it l i) : ObjOk P w H h it (TtO l it i) :=
  ⟨e, let ⟨o, ho, _⟩ := e; ⟨o, ho⟩, fun h1 h2 q k => let ⟨o, ho, r⟩ := q; ⟨o, k _ ho, r⟩⟩
def rIterT (K : PySem.W.Frag) (n : Nat) : List V → Hp → VK → Prop := fun xs H Q => ∃ (l : Addr) (zs : List V), xs = [.ref l] ∧ SqT K H l zs ∧ ∀ it, H it = none → n ≤ it → Q (.ref it) (upd H it (TtO l it 0))
section
variable {X : Cx}
theorem call_iterT : CallR X (.builtin "iter") (rIterT X.K X.s_0.heap.objs.size) := by
  intro pins s σ H xs us Q I r h
  obtain ⟨l, zs, rfl, hq, q⟩ := h
  obtain ⟨u, rfl, ru⟩ := vals1 r
  cases ru
  obtain ⟨its, rv, pl, hz⟩ := I.tuple hq
  refine Calls.call_function_entry (by decide +kernel) (by decide +kernel) PySem.W.kdk_entry_iter (PySem.W.kdk_args_iter _) ?_
  unfold Builtin.«iter»
  refine wpAny_bind (m := someArgs "iter" 1 2 _) (wpAny_of_eq (a := [Value.ref l]) (by first | rfl | kernel_rfl!) ?_)
  show wpAny _ _ (pyIter (.ref l) >>= _) _ _ _
  refine wpAny_bind (wpAny_pyIter_tuple (show s.heap.IsTuple l its.toArray from pl) ?_)
  refine wpAny_pure ⟨_, rfl, ?_⟩
  have e : (s.heap.push { cls := .type "tuple_iterator", data := .fields #[.ref l, .int 0 0] }).IsTupleIter s.heap.objs.size l 0 := ⟨_, Heap.get?_push_size _ rfl, rfl, rfl⟩
  exact ⟨.ref s.heap.objs.size, _, I.laid (t' := s.toks) (fun b u e => Heap.get?_push_of_some _ e) (Nat.le_refl _) (ttO_ok e), rfl, q _ (I.hok.fresh (Nat.le_refl _)) I.sz⟩
end
/-! ### a contract that knows how large the heap was -/
structure FnGN (P : Program) (wd : World) (K : PySem.W.Frag) (mg : Str → Option Value) (base : Heap) (CX : CXT) (k : Nat) (f : Addr) (fd : FuncData) (ps : List Str) (sp : Nat → Sp) : Prop where
  many : ∀ n vs H Q E, sp n vs H Q E → vs.length = ps.length
  goes : ∀ (A : Around) (outer : List Env) (s0 : Shared) (H : Hp) (args : Args) (us : List Value) (vs : List V) (Q : VK) (E : XK),
    Room k A → A.guards = some [] → Env0 P wd K mg base A outer s0 H → BindsTo s0 fd args (ps.zip us) → Vals vs us → sp s0.heap.objs.size vs H Q E →
      codeAny (model P wd) A (.call (.ref f) args) (CR CX outer P wd H s0 Q E) s0
theorem FunG.okN {P : Program} {wd : World} {K : PySem.W.Frag} {mg : Str → Option Value} {base : Heap} {x qual : Str} {st : Stmt} {f : Addr} {fd : FuncData} {N ps : List Str} {k : Nat} {sp : Nat → Sp}
    (F : Fun K x qual st f fd) (S : FnScope N ps (defScope st)) (many : ∀ n vs H Q E, sp n vs H Q E → vs.length = ps.length)
    (inside : ∀ (cdv : Value) (A : Around) (outer : List Env) (s0 : Shared) (H : Hp) (vs : List V) (Q : VK) (E : XK), Room k (A.deeper (envOfC qual (defScope st) s0.heap.objs.size f cdv)) → A.guards = some [] → sp s0.heap.objs.size vs H Q E →
      ∃ t, PSs (cxOf CX0 P wd K mg base N qual (defScope st) f cdv A outer s0 H E).nox (defBody st) t ∧ t { nx := fun _ H' => Q .non H', rt := Q } (start N vs) H) :
    FnGN P wd K mg base CX0 (k + 1) f fd ps sp := by
  constructor
  · exact many
  · intro A outer s0 H args us vs Q E room hG z0 bd rel pre
    obtain ⟨oc, od, kV, doc, pm, an, cdv, ct, osl, rfl, at_f, at_c⟩ := F.ex
    have keep0 : ∀ b o, base.get? b = some o → s0.heap.get? b = some o := fun b o e => (z0.bs b o e).1
    have inK : K.In s0.heap := z0.mod.kin.keeps keep0
    have nolim : s0.heap.NoLimit := z0.mod.nolimit.keeps keep0
    have kinds : ∀ y ∈ ps.zip us, (defScope st).names.lookup y.1 = some .local ∨ ((defScope st).names.lookup y.1 = some .cell ∧ ((cellsFrom (s0.heap.objs.size + 1) (defScope st).names []).lookup y.1).isSome = true) := by
      rintro ⟨n, v⟩ hy
      cases S.par n (List.of_mem_zip hy).1 with
      | inl q => exact Or.inl q
      | inr q => exact Or.inr ⟨q, PySem.W.cellsFrom_some _ _ _ (Or.inl q)⟩
    apply codeAny_call_function room.depth (inK _ _ at_f) rfl S.co S.gen rfl (PySem.W.codeRec_of inK at_c) (bd _ _ _ _ ?_)
    apply wpAny_newFunctionEnv_cells S.kind kinds
    intro env ee s1 ic
    subst ee
    refine ⟨nolim.keeps ic.toInCall.keep, codeAny_func ?_⟩
    obtain ⟨t, runs, goal⟩ := inside cdv A outer s0 H vs Q E (room.deeper _) hG pre
    have J := inv_start (CX := CX0) (P := P) (w := wd) (K := K) (mg := mg) (base := base) (N := N) (ps := ps) (qual := qual) (scope := defScope st) (f := f) (cd := cdv) (E := E) S room.hd z0 (many _ _ _ _ _ pre) rel ic
    have last : ∀ {σ' : L2.St} {H' : Hp} {v : V} {u : Value} {s' : Shared}, Inv (cxOf CX0 P wd K mg base N qual (defScope st) f cdv A outer s0 H E) [] σ' H' s' → RelV v u → Q v H' → CE outer P wd H s0 Q u s' := by
      intro σ' H' v u s' I rv q
      exact ⟨v, H', I.os, I.bare, I.base, I.hok, rv, q⟩
    refine wpAny_mono (runs.nox.run [] s1 (start N vs) H _ J goal) ?_ (fun e s' hs => hs)
    intro fl s' hs
    cases fl with
    | next =>
      obtain ⟨σ', H', I, q⟩ := hs
      exact last (v := V.non) (u := Value.none) I rfl q
    | ret u =>
      obtain ⟨v, σ', H', I, rv, q⟩ := hs
      exact last I rv q
    | brk =>
      obtain ⟨_, _, _, q⟩ := hs
      exact q.elim
    | cont =>
      obtain ⟨_, _, _, q⟩ := hs
      exact q.elim
/-! ### pyIter of an instance -/
/-- what an own __iter__ gives: an iterator of the tuple that the attribute f holds -/
def spIter (K : PySem.W.Frag) (C : Addr) (f : Str) : Nat → Sp := fun n vs H Q _ => ∃ a dx us l xs, vs = [.ref a] ∧ H a = some (.ins C dx us) ∧ us.lookup f = some (.ref l) ∧ SqT K H l xs ∧ ∀ it, H it = none → n ≤ it → Q (.ref it) (upd H it (TtO l it 0))
structure IterAt (P : Program) (wd : World) (K : PySem.W.Frag) (mg : Str → Option Value) (base : Heap) (k : Nat) (C : Addr) (f : Str) : Prop where
  ex : ∃ g fd, FnGN P wd K mg base CX0 k g fd ["self"] (spIter K C f) ∧ PySem.W.findIn K (.ref C) "__iter__" = some (some (.ref g)) ∧ PySem.W.isFn K (.ref g) = true ∧ Binds K fd ["self"] []
section
variable {X : Cx} {pins : List (Addr × Obj)} {σ : L2.St} {H : Hp} {s : Shared}
theorem own_pyIter {A1 : Around} {k : Nat} {C : Addr} {f : Str} (c : IterAt X.prog X.w X.K X.mg X.base k C f) (room : Room k A1) (fr : A1.frames = X.A.frames) (hG : A1.guards = some []) (I : Inv X pins σ H s) {a dx l : Addr} {us : List (Str × V)} {xs : List V}
    (ha : H a = some (.ins C dx us)) (hu : us.lookup f = some (.ref l)) (hq : SqT X.K H l xs) {Q : Value → Shared → Prop}
    (hQ : ∀ s' it, Inv X pins σ H s' → s'.heap.IsTupleIter it l 0 → FpOk X pins H it → s.heap.objs.size ≤ it → Q (.ref it) s') : wpAny (model X.prog X.w) A1 (pyIter (.ref a)) Q X.xe s := by
  obtain ⟨g, fd, F, it_, itF, bd⟩ := c.ex
  obtain ⟨mA, J, _⟩ := ins_get I.hok ha
  obtain ⟨od, J, _⟩ := J.look
  obtain ⟨m0, hF⟩ := I.fr
  refine PySem.W.owit_iter hF I.ok.mod.kin J it_ itF ?_
  have e0 : Env0 X.prog X.w X.K X.mg X.base A1 X.stack s H := by
    have e := I.env0
    exact ⟨by rw [fr]; exact e.frames, e.mod, e.bs, e.bsz, e.funs, e.frf, e.hok, e.bare⟩
  have r2 : Vals [V.ref a] [Value.ref a] := .cons rfl .nil
  have pre : spIter X.K C f s.heap.objs.size [.ref a] H (fun v H' => ∃ it, v = .ref it ∧ H it = none ∧ s.heap.objs.size ≤ it ∧ H' = upd H it (TtO l it 0)) E0 :=
    ⟨a, dx, us, l, xs, rfl, ha, hu, hq, fun it n z => ⟨it, rfl, n, z, rfl⟩⟩
  have len2 : ([Value.ref a] : List Value).length = ["self"].length := rfl
  have b2 := bd s [.ref a] I.kIn len2
  refine wpAny_call (codeAny_mono (F.goes A1 X.stack s H ⟨[.ref a], []⟩ [.ref a] [.ref a] _ E0 room hG e0 b2 r2 pre) fun r s' hq' => ?_)
  cases r with
  | error e => exact pass0 pins σ H s e s' I hq'
  | ok fl =>
    cases fl with
    | next => exact False.elim hq'
    | brk => exact False.elim hq'
    | cont => exact False.elim hq'
    | ret u =>
      obtain ⟨v, H', I', rv, it, ev, nit, sz, eH⟩ := I.after hq'
      subst ev eH
      cases (show u = Value.ref it from rv)
      have at_ : upd H it (TtO l it 0) it = some (TtO l it 0) := upd_same
      have ti : s'.heap.IsTupleIter it l 0 := (I'.hok it _ at_).1
      have I2 := ItX.inv_drop I' at_
      rw [ItX.dropH_upd nit] at I2
      have fp := ItX.inv_fp I' at_ (Nat.le_trans I.sz sz)
      rw [ItX.dropH_upd nit] at fp
      unfold PySem.W.OwitIt
      exact wpAny_specialOf ti.typeIs PySem.F.slot_tuple_iterator_next.lookup (hQ s' it I2 ti fp sz)
end
end Pd
/-! for x in o, for i, x in enumerate(o), o an instance with an own __iter__. -/
namespace Pd
open PySem PySem.Spec PyProof.Rows L2
section
variable {X : Cx} {tg : Expr}
def iOwn (K : PySem.W.Frag) (C : Addr) (f : Str) (te : TE) : TI := fun σ H R => te σ H fun x H1 => ∃ a dx us l xs, x = .ref a ∧ H1 a = some (.ins C dx us) ∧ us.lookup f = some (.ref l) ∧ SqT K H1 l xs ∧ R (Itt K l) H1
theorem pi_own {e : Expr} {te : TE} {k : Nat} {C : Addr} {f : Str} (c : IterAt X.prog X.w X.K X.mg X.base k C f) (room : Room k X.A) (hG : X.A.guards = some []) (he : PE X e te) : PI X tg e (iOwn X.K C f te) := by
  refine ⟨fun pins s σ H R I h => ?_⟩
  refine thn (he.run pins s σ H _ I h) fun v s1 ⟨x, H1, I1, r1, q1⟩ => ?_
  obtain ⟨a, dx, us, l, xs, e, ha, hu, hq, q⟩ := q1
  subst e
  cases r1
  refine own_pyIter c room rfl hG I1 ha hu hq fun s' it I2 ti fp sz => ?_
  refine ⟨it, [it], _, _, H1, rfl, I2, turn_tuple l it, ti, fun b hb => ?_, q⟩
  have e : b = it := by simpa using hb
  subst e
  exact fp
end
/-! ### enumerate -/
/-- the tuple at a, each item in a new pair -/
def IteT (K : PySem.W.Frag) (a : Addr) : It :=
  ⟨fun i H => ∃ (xs : List V) (x : V), SqT K H a xs ∧ xs[i]? = some x, fun i H v H' => ∃ T x, v = .ref T ∧ H T = none ∧ H' = upd H T (.tup [.int (i : Nat), x]) ∧ ∀ xs, SqT K H a xs → xs[i]? = some x, fun i H => ∃ xs : List V, SqT K H a xs ∧ xs.length ≤ i⟩
theorem turn_enumT {P : Program} {w : World} {K : PySem.W.Frag} {elts : List Expr} {kk : Nat} {tpos : Pos} (a e it : Addr) :
    Turn P w K (.Tuple elts kk tpos) (IteT K a) [e, it] e (fun i h => (∃ old, IsEnum h e it ((i : Nat) : Int) old) ∧ h.IsTupleIter it a i ∧ e ≠ it) where
  mem := by simp
  obj := fun i h st b hb => by
    obtain ⟨⟨old, he⟩, ⟨o, ho, hc, hd⟩, _⟩ := st
    have e' : b = e ∨ b = it := by simpa using hb
    rcases e' with z | z
    · rw [z]; exact ⟨_, he, fun v q => nomatch q⟩
    · rw [z]; exact ⟨o, ho, fun v q => by rw [hd] at q; cases q⟩
  keep := fun i h h' st k => let ⟨⟨old, he⟩, hi, hne⟩ := st; ⟨⟨old, k e (by simp) _ he⟩, hi.at fun o q => k it (by simp) o q, hne⟩
  item := by
    intro X hP hw hK hc i pins s σ H E I hf st hg
    subst hP hw hK
    obtain ⟨⟨old, he⟩, hit, hne⟩ := st
    obtain ⟨xs, x, hq, hx⟩ := hg
    obtain ⟨its, rv, p, hz⟩ := I.tuple hq
    have p' : s.heap.IsTuple a its.toArray := p
    obtain ⟨u, hu, ru⟩ := rv.get hx
    have hel : e < s.heap.objs.size := Heap.lt_size he
    have hil : it < s.heap.objs.size := by obtain ⟨_, q, _⟩ := hit; exact Heap.lt_size q
    have nea : e ≠ a := fun z => by
      obtain ⟨o, ho, hc', _⟩ := p'
      rw [← z, he] at ho
      cases ho
      injection hc' with z
      exact absurd z (by decide)
    have nia : a ≠ it := fun z => by
      obtain ⟨o, ho, hc', _⟩ := p'
      obtain ⟨o2, ho2, hc2, _⟩ := hit
      rw [z, ho2] at ho
      cases ho
      rw [hc2] at hc'
      injection hc' with z
      exact absurd z (by decide)
    have hi : i < its.toArray.size := by
      have := (List.getElem?_eq_some_iff.mp hu).1
      simpa using this
    refine wpAny_pyNext_enum_itemD (Draws.tuple (A := X.A.in1) (I.ok.hd hc) it a nia its.toArray) he ⟨hit, p'⟩ hi hne (by simp [hne, nea]) fun x' h' tk hx' ho hst hT hsz hk => ?_
    have exu : x' = u := by
      have z : its.toArray[i]? = some u := by simpa using hu
      rw [z] at hx'
      exact (Option.some.inj hx').symm
    subst exu
    refine ⟨_, rfl, wpAny_letOwnedTupleGo_enum (s := { s with heap := h', toks := tk + 1 }) ho fun h'' he' sb => ?_⟩
    have hT2 : h''.get? s.heap.objs.size = some { cls := .type "tuple", data := .seq #[.int i tk, x'] } := (sb.2 _ (Nat.ne_of_gt hel)).trans hT
    have new : ObjOk X.prog X.w (upd H s.heap.objs.size (.tup [.int (i : Nat), x])) h'' s.heap.objs.size (.tup [.int (i : Nat), x]) :=
      ⟨by show 2 ≤ sizeLine; decide, [.int i tk, x'], .cons ⟨_, rfl⟩ (.cons ru .nil), ⟨_, hT2, rfl, _, rfl⟩⟩
    have I1 : Inv X pins σ (upd H s.heap.objs.size (.tup [.int (i : Nat), x])) { s with heap := h'', toks := tk + 1 } :=
      I.turnedNew (ch := [e, it]) (fun b ob hb q => (sb.2 b (fun z => hb (by simp [z]))).trans (hk b ob (fun z => hb (by simp [z])) (fun z => hb (by simp [z])) q)) hf (Nat.le_refl _) new
    refine ⟨.ref s.heap.objs.size, _, I1, rfl, ⟨_, x, rfl, I.hok.fresh (Nat.le_refl _), rfl, fun ys hy => by rw [I.tuple_inj hy hq]; exact hx⟩, ⟨⟨x', ?_⟩, hst.1.at fun o q => (sb.2 it (Ne.symm hne)).trans q, hne⟩, fun b hb => ?_⟩
    · have e1 : ((i + 1 : Nat) : Int) = (i : Int) + 1 := by omega
      rw [e1]; exact he'
    · have hb' : b < s.heap.objs.size := by
        have e' : b = e ∨ b = it := by simpa using hb
        rcases e' with z | z
        · rw [z]; exact hel
        · rw [z]; exact hil
      rw [upd_ne (Nat.ne_of_lt hb')]
      exact (hf b hb).1
  done := by
    intro X hP hw hK hc i pins s σ H E I hf st hg
    subst hP hw hK
    obtain ⟨⟨old, he⟩, hit, hne⟩ := st
    obtain ⟨xs, hq, hx⟩ := hg
    obtain ⟨its, rv, p, hz⟩ := I.tuple hq
    obtain ⟨f0, f1, f2, f3, f4, f5⟩ := hf it (by simp)
    have hl := rv.length
    have p' : s.heap.IsTuple a its.toArray := p
    have hT : s.TypeIs (.ref e) "enumerate" := ⟨_, he, rfl⟩
    unfold pyNext
    refine wpAny_bind (wpAny_attempt (wpAny_callSpecial?_slot (name := Str.ofString "__next__") hT F.slot_enumerate_next
      (wpAny_call_entry F.slot_enumerate_next hT F.entry_enumerate_next ?_ (F.args_enumerate_next_1 _))))
    show wpAny _ _ (field (.ref e) 2 >>= _) _ _ _
    refine wpAny_bind (wpAny_field he rfl (x := .ref it) rfl ?_)
    refine wpAny_bind (wpAny_nextOf_tuple_end (I.ok.hd hc) hit p' (by simp; omega) fun h' x he' hx' => ?_)
    obtain ⟨o, ho, hc'⟩ := hx'
    refine wpAny_bind (wpAny_isInstance (T := "StopIteration") (b := true) ⟨o, ho, hc'⟩ isSubtype_stop ?_)
    exact wpAny_pure ⟨rfl, I.turned (t' := s.toks) (fun b o hb q => he' b o hb q) f0 f1 f3 f4 f5⟩
  self := fun A i s Q E st h => let ⟨⟨_, he⟩, _⟩ := st; wpAny_pyIter_enum he h
theorem enum_new {prog : Program} {w : World} {A1 A2 : Around} {s : Shared} {a : Addr} {R : Result → Shared → Prop}
    (hp : wpAny (model prog w) A2 (pyIter (.ref a)) (fun v s' => R (.ok (.ret (.ref s'.heap.objs.size))) { s' with heap := s'.heap.push { cls := .type "enumerate", data := .fields #[.none, .bool false, v, rawInt 0, .none, .none] } }) (fun e s' => R (.error e) s') s) :
    wpAny (model prog w) A2 (Builtin.«enumerate.__new__» ⟨[.type "enumerate", .ref a], []⟩) (fun fin s' => match fin with | .done f => R (.ok f) s' | .again c' => c'.quiet = true ∧ codeAny (model prog w) A1 c' R s') (fun e s' => R (.error e) s') s := by
  have hsub := sub_enumerate
  wp_walk
  refine wpAny_stack_any fun st => wpAny_pure ?_
  have fin : ∀ (v : Value) (s' : Shared), R (.ok (.ret (.ref s'.heap.objs.size))) { s' with heap := s'.heap.push { cls := .type "enumerate", data := .fields #[.none, .bool false, v, rawInt 0, .none, .none] } } →
      wpAny (model prog w) A2 (Builtin.SmallTypes.newRecord (.type "enumerate") (Builtin.SmallTypes.ownedTupleFields ++ [v, rawInt 0, .none, .none]) >>= fun r => ret r) (fun fin s' => match fin with | .done f => R (.ok f) s' | .again c' => c'.quiet = true ∧ codeAny (model prog w) A1 c' R s') (fun e s' => R (.error e) s') s' := by
    intro v s' h
    obtain ⟨hp', g, d, tk, os⟩ := s'
    wp_walk
    exact h
  have hP : ∀ {Q : Value → Shared → Prop}, (∀ v s', R (.ok (.ret (.ref s'.heap.objs.size))) { s' with heap := s'.heap.push { cls := .type "enumerate", data := .fields #[.none, .bool false, v, rawInt 0, .none, .none] } } → Q v s') →
      wpAny (model prog w) A2 (pyIter (.ref a)) Q (fun e s' => R (.error e) s') s := fun h => wpAny_mono hp h fun _ _ x => x
  split
  · rename_i c _ _ _ _ _
    cases (c == Value.type "enumerate")
    · wp_walk using hP
      exact fun v s' h => fin v s' h
    · wp_walk using hP
      exact fun v s' h => fin v s' h
  · wp_walk using hP
    exact fun v s' h => fin v s' h
end Pd
/-! enumerate(o); walks over instances as data. -/
namespace Pd
open PySem PySem.Spec PyProof.Rows L2
theorem call_enumW {prog : Program} {w : World} {A : Around} {E : Value → Shared → Prop} {s : Shared} {a : Addr} {Q : Value → Shared → Prop}
    (hp : wpAny (model prog w) A.in1.in1 (pyIter (.ref a)) (fun v s' => Q (.ref s'.heap.objs.size) { s' with heap := s'.heap.push { cls := .type "enumerate", data := .fields #[.none, .bool false, v, rawInt 0, .none, .none] } }) E s) :
    wpAny (model prog w) A (call (.type "enumerate") [.ref a]) Q E s := by
  refine callType_codes (Q₁ := fun obj s1 => s1.TypeIs obj "enumerate" ∧ Q obj s1) F.called_enumerate (F.typeCall_enumerate_1 _) F.entry_object_init
    (codeAny_call_builtin F.called_enumerate.plain F.entry_enumerate_new (wpAny_of_eq (F.newCall_enumerate_1 _) (enum_new (R := wants (fun obj s1 => s1.TypeIs obj "enumerate" ∧ Q obj s1) E) ?_))) fun obj s1 h1 => ?_
  · exact wpAny_mono hp (fun v s' h => ⟨⟨_, Heap.get?_push_size _ rfl, rfl⟩, h⟩) fun _ _ x => x
  · exact ⟨h1.1, F.args_object_init_2 obj _, object_init_meets F.called_enumerate.init.lookup F.called_enumerate.made (by decide) prog w A.in1 _ s1 ⟨h1.1, rfl, h1.2⟩⟩
section
variable {X : Cx}
def iOwnE (K : PySem.W.Frag) (C : Addr) (f : Str) (te : TA) : TI := fun σ H R => te σ H fun vs H1 => ∃ a dx us l xs, vs = [.ref a] ∧ H1 a = some (.ins C dx us) ∧ us.lookup f = some (.ref l) ∧ SqT K H1 l xs ∧ R (IteT K l) H1
theorem pi_ownE {e : Expr} {ta : TA} {p pos tpos : Pos} {elts : List Expr} {kk : Nat} {k : Nat} {C : Addr} {f : Str} (c : IterAt X.prog X.w X.K X.mg X.base k C f) (room : Room (k + 2) X.A) (hG : X.A.guards = some []) (hg : Gl X "enumerate") (hm : X.mg "enumerate" = none) (ha : PA X [e] ta) (hs : starEach [e] X.env = [(false, eval e X.env)] := by rfl) :
    PI X (.Tuple elts kk tpos) (.Call (.Name "enumerate" p) [e] [] pos) (iOwnE X.K C f ta) := by
  refine ⟨fun pins s σ H R I h => ?_⟩
  refine Call_ (ld_blt I hg hm boot_enumerate (PyProof.Rows.callWith_type1 (thn (ha.run pos pins s σ H _ I h) fun us s1 ⟨vs, H1, I1, r1, q1⟩ => ?_) hs rfl))
  obtain ⟨a, dx, us', l, xs, ex, hi, hu, hq, q⟩ := q1
  subst ex
  cases r1 with
  | cons r rr =>
    cases rr
    cases r
    refine call_enumW (own_pyIter c (room.in1.in1) rfl hG I1 hi hu hq fun s' it I2 ti fp sz => ?_)
    have he : IsEnum (s'.heap.push { cls := .type "enumerate", data := .fields #[.none, .bool false, .ref it, rawInt 0, .none, .none] }) s'.heap.objs.size it 0 .none := Heap.get?_push_size _ rfl
    refine wpAny_pyIter_enum (s := { s' with heap := s'.heap.push { cls := .type "enumerate", data := .fields #[.none, .bool false, .ref it, rawInt 0, .none, .none] } }) he ?_
    have hk : ∀ b o, s'.heap.get? b = some o → (s'.heap.push { cls := .type "enumerate", data := .fields #[.none, .bool false, .ref it, rawInt 0, .none, .none] }).get? b = some o := fun b o z => Heap.get?_push_of_some _ z
    have I3 : Inv X pins σ H1 { s' with heap := s'.heap.push { cls := .type "enumerate", data := .fields #[.none, .bool false, .ref it, rawInt 0, .none, .none] } } := I2.kept (t' := s'.toks) hk
    have lit : it < s'.heap.objs.size := by obtain ⟨_, z, _⟩ := ti; exact Heap.lt_size z
    refine ⟨s'.heap.objs.size, [s'.heap.objs.size, it], _, _, H1, rfl, I3, turn_enumT l s'.heap.objs.size it, ⟨⟨.none, he⟩, ti.at fun o z => hk _ _ z, Nat.ne_of_gt lit⟩, fun b hb => ?_, q⟩
    have e' : b = s'.heap.objs.size ∨ b = it := by simpa using hb
    rcases e' with z | z
    · rw [z]; exact I2.fpOk (Nat.le_refl _) (I2.hok.fresh (Nat.le_refl _))
    · rw [z]; exact fp
end
/-! ### as data -/
section
variable {X : Cx} {w : Wd} {e tg : Expr} {pos : Pos} {te : TDE}
theorem Dv.toG {K : PySem.W.Frag} {g g' : Option Addr} {H : Hp} {d : Da} {v : V} (n : noL d = true) (h : Dv K g H v d) : Dv K g' H v d := Dv.sees (Sees.sm fun _ _ z => z) _ _ n h
/-- the tuple that an instance's attribute holds -/
theorem insD_tup {K : PySem.W.Frag} {g : Option Addr} {H : Hp} {v : V} {C : Addr} {f : Str} {fs : List (Str × Da)} {ds : List Da} (h : Dv K g H v (insD K C fs)) (lk : fs.lookup f = some (.tup ds)) (n : noL (.tup ds) = true) :
    ∃ a dx us l xs, v = .ref a ∧ H a = some (.ins C dx us) ∧ us.lookup f = some (.ref l) ∧ SqT K H l xs ∧ DvAll K g H xs ds := by
  obtain ⟨a, dx, us, rfl, at_a, fl⟩ := insD_at h
  obtain ⟨u, lu, du⟩ := fl.get lk
  have du' : Dv K g H u (.tup ds) := Dv.toG n du
  cases du' with
  | tup h1 h2 => exact ⟨a, dx, us, _, _, rfl, at_a, lu, h1.sq, h2⟩
def dItO (K : PySem.W.Frag) (C : Addr) (f : Str) (t : TDE) : TDI := fun r Q => t r fun d => ∃ fs ds, d = insD K C fs ∧ fs.lookup f = some (.tup ds) ∧ noL (.tup ds) = true ∧ Q ds
theorem pid_own {k : Nat} {C : Addr} {f : Str} (c : IterAt X.prog X.w X.K X.mg X.base k C f) (room : Room k X.A) (hG : X.A.guards = some []) (h : PEd X w e te) : PId X w tg e (dItO X.K C f te) := by
  refine ⟨weI (pi_own c room hG h.pe) ?_, fun r Q Q' q z => h.mo _ _ _ (fun d ⟨fs, ds, a, b, c, z⟩ => ⟨fs, ds, a, b, c, q _ z⟩) z⟩
  rintro σ H R ⟨W, own, r, S, z⟩
  refine go1 h S z fun d v H1 e1 k1 d1 ⟨fs, ds, ed, lk, n, p⟩ => ?_
  subst ed
  obtain ⟨a, dx, us, l, xs, rfl, at_a, lu, h1, h2⟩ := insD_tup d1 lk n
  exact ⟨a, dx, us, l, xs, rfl, (hid_some at_a).2, lu, sq_hid h1, p _ H1 e1 k1 (wlk_tup h1 h2)⟩
theorem wlk_enumT {K : PySem.W.Frag} {g : Option Addr} {W : Addr → Bool} {H : Hp} {l : Addr} {xs : List V} {ds : List Da} (h1 : SqT K (hid W H) l xs) (h2 : DvAll K g (hid W H) xs ds) : Wlk K g W H (IteT K l) (enumD ds) := by
  intro i H' s
  have q : SqT K H' l xs := sqt_mono s h1
  rw [enumD_len]
  refine ⟨fun hi => ?_, fun hi => ⟨xs, q, by rw [h2.len]; exact hi⟩, fun v H'' hi y => ?_⟩
  · have hx : i < xs.length := by rw [h2.len]; exact hi
    exact ⟨xs, xs[i], q, List.getElem?_eq_getElem hx⟩
  · obtain ⟨T, x, rfl, nT, rfl, fx⟩ := y
    obtain ⟨d, a1, a2⟩ := h2.ta (fx xs q)
    refine ⟨sm_upd nT, _, enumD_at a1, fun Z z1 z2 => ?_⟩
    exact .tpw (.inl (.inl (z2 T _ nT upd_same))) (.cons (.int _) (.cons (Dv.mono z1 _ _ a2) .nil))
def dItOE (K : PySem.W.Frag) (C : Addr) (f : Str) (t : TDE) : TDI := fun r Q => t r fun d => ∃ fs ds, d = insD K C fs ∧ fs.lookup f = some (.tup ds) ∧ noL (.tup ds) = true ∧ Q (enumD ds)
theorem pid_ownE {p tpos : Pos} {elts : List Expr} {kk : Nat} {k : Nat} {C : Addr} {f : Str} (c : IterAt X.prog X.w X.K X.mg X.base k C f) (room : Room (k + 2) X.A) (hG : X.A.guards = some []) (hm : X.mg "enumerate" = none) (h : PEd X w e te) (hg : Gl X "enumerate" := by rfl) (h1 : starEach (e :: []) X.env = (false, eval e X.env) :: starEach [] X.env := by rfl) (hs : starEach [e] X.env = [(false, eval e X.env)] := by rfl) :
    PId X w (.Tuple elts kk tpos) (.Call (.Name "enumerate" p) [e] [] pos) (dItOE X.K C f te) := by
  refine ⟨weI (pi_ownE c room hG hg hm (pa_cons h.pe pa_nil h1) hs) ?_, fun r Q Q' q z => h.mo _ _ _ (fun d ⟨fs, ds, a, b, c, z⟩ => ⟨fs, ds, a, b, c, q _ z⟩) z⟩
  rintro σ H R ⟨W, own, r, S, z⟩
  refine go1 h S z fun d v H1 e1 k1 d1 ⟨fs, ds, ed, lk, n, q⟩ => ?_
  subst ed
  obtain ⟨a, dx, us, l, xs, rfl, at_a, lu, h1, h2⟩ := insD_tup d1 lk n
  exact ⟨a, dx, us, l, xs, rfl, (hid_some at_a).2, lu, sq_hid h1, q _ H1 e1 k1 (wlk_enumT h1 h2)⟩
/-- enumerate(a tuple) -/
def iEnumT (K : PySem.W.Frag) (ta : TA) : TI := fun σ H R => ta σ H fun vs H1 => ∃ a xs, vs = [.ref a] ∧ SqT K H1 a xs ∧ R (IteT K a) H1
theorem pi_enumT {e : Expr} {ta : TA} {p pos tpos : Pos} {elts : List Expr} {kk : Nat} (hg : Gl X "enumerate") (hm : X.mg "enumerate" = none) (ha : PA X [e] ta) (hs : starEach [e] X.env = [(false, eval e X.env)] := by rfl) :
    PI X (.Tuple elts kk tpos) (.Call (.Name "enumerate" p) [e] [] pos) (iEnumT X.K ta) := by
  refine ⟨fun pins s σ H R I h => ?_⟩
  refine Call_ (ld_blt I hg hm boot_enumerate (PyProof.Rows.callWith_type1 (thn (ha.run pos pins s σ H _ I h) fun us s1 ⟨vs, H1, I1, r1, q1⟩ => ?_) hs rfl))
  obtain ⟨a, xs, ex, hq, q⟩ := q1
  subst ex
  cases r1 with
  | cons r rr =>
    cases rr
    cases r
    obtain ⟨its, rv, p', hz⟩ := I1.tuple hq
    refine call_enumW (wpAny_pyIter_tuple (show s1.heap.IsTuple a its.toArray from p') ?_)
    have sz : (s1.heap.push { cls := .type "tuple_iterator", data := .fields #[.ref a, .int 0 0] }).objs.size = s1.heap.objs.size + 1 := Heap.size_push ..
    have ti : (s1.heap.push { cls := .type "tuple_iterator", data := .fields #[.ref a, .int 0 0] }).IsTupleIter s1.heap.objs.size a 0 := ⟨_, Heap.get?_push_size _ rfl, rfl, rfl⟩
    have he : IsEnum ((s1.heap.push { cls := .type "tuple_iterator", data := .fields #[.ref a, .int 0 0] }).push { cls := .type "enumerate", data := .fields #[.none, .bool false, .ref s1.heap.objs.size, rawInt 0, .none, .none] }) (s1.heap.push { cls := .type "tuple_iterator", data := .fields #[.ref a, .int 0 0] }).objs.size s1.heap.objs.size 0 .none := Heap.get?_push_size _ rfl
    refine wpAny_pyIter_enum he ?_
    have hk : ∀ b o, s1.heap.get? b = some o → ((s1.heap.push { cls := .type "tuple_iterator", data := .fields #[.ref a, .int 0 0] }).push { cls := .type "enumerate", data := .fields #[.none, .bool false, .ref s1.heap.objs.size, rawInt 0, .none, .none] }).get? b = some o := fun b o z => Heap.get?_push_of_some _ (Heap.get?_push_of_some _ z)
    refine ⟨_, [(s1.heap.push { cls := .type "tuple_iterator", data := .fields #[.ref a, .int 0 0] }).objs.size, s1.heap.objs.size], _, _, H1, rfl, I1.kept (t' := s1.toks) hk, turn_enumT a _ s1.heap.objs.size, ⟨⟨.none, he⟩, ti.at fun o z => Heap.get?_push_of_some _ z, by rw [sz]; exact Nat.succ_ne_self _⟩, fun b hb => ?_, q⟩
    have e' : b = (s1.heap.push { cls := .type "tuple_iterator", data := .fields #[.ref a, .int 0 0] }).objs.size ∨ b = s1.heap.objs.size := by simpa using hb
    have hle : s1.heap.objs.size ≤ b := by
      rcases e' with z | z
      · rw [z, sz]; exact Nat.le_add_right _ _
      · rw [z]; exact Nat.le_refl _
    exact I1.fpOk hle (I1.hok.fresh hle)
def dItTE (t : TDE) : TDI := fun r Q => t r fun d => ∃ ds, d = .tup ds ∧ Q (enumD ds)
theorem pid_enumT {p tpos : Pos} {elts : List Expr} {kk : Nat} (hm : X.mg "enumerate" = none) (h : PEd X w e te) (hg : Gl X "enumerate" := by rfl) (h1 : starEach (e :: []) X.env = (false, eval e X.env) :: starEach [] X.env := by rfl) (hs : starEach [e] X.env = [(false, eval e X.env)] := by rfl) :
    PId X w (.Tuple elts kk tpos) (.Call (.Name "enumerate" p) [e] [] pos) (dItTE te) := by
  refine ⟨weI (pi_enumT hg hm (pa_cons h.pe pa_nil h1) hs) ?_, fun r Q Q' q z => h.mo _ _ _ (fun d ⟨n, e, z⟩ => ⟨n, e, q _ z⟩) z⟩
  rintro σ H R ⟨W, own, r, S, z⟩
  refine go1 h S z fun d v H1 e1 k1 d1 p => ?_
  obtain ⟨ds, rfl, p⟩ := p
  cases d1 with
  | tup a1 a2 => exact ⟨_, _, rfl, sq_hid a1.sq, p _ H1 e1 k1 (wlk_enumT a1.sq a2)⟩
end
end Pd
/-! An instance's own __iter__, __len__, __or__, by their bodies; in; a nested target; list or tuple. -/
namespace Pd
open PySem PySem.Spec PyProof.Rows L2
/-! ### an own def called by a built-in -/
section
variable {X : Cx} {k : Nat} {f C : Addr} {fd : FuncData} {ps : List Str} {sp : Sp}
theorem run_GA {A1 : Around} {pins : List (Addr × Obj)} {σ : L2.St} {H : Hp} {s : Shared} {Q : VK} {us : List Value} {vs : List V} (F : FnG X.prog X.w X.K X.mg X.base CX0 k f fd ps sp) (room : Room k A1) (fr : A1.frames = X.A.frames) (hG : A1.guards = some [])
    (bd : Binds X.K fd ps []) (I : Inv X pins σ H s) (rel : Vals vs us) (pre : sp vs H Q E0) : wpAny (model X.prog X.w) A1 (call (.ref f) us) (EP X pins σ Q) X.xe s := by
  have len2 : us.length = ps.length := rel.length.symm.trans (F.many _ _ _ _ pre)
  have e0 : Env0 X.prog X.w X.K X.mg X.base A1 X.stack s H := by
    have e := I.env0
    exact ⟨by rw [fr]; exact e.frames, e.mod, e.bs, e.bsz, e.funs, e.frf, e.hok, e.bare⟩
  have b2 := bd s us I.kIn (by rw [List.append_nil]; exact len2)
  rw [List.append_nil] at b2
  have all := F.goes A1 X.stack s H ⟨us, []⟩ us vs Q E0 room hG e0 b2 rel pre
  refine wpAny_call (codeAny_mono all ?_)
  intro r s' out
  match r, out with
  | .error e, out => exact pass0 pins σ H s e s' I out
  | .ok (.ret u), out => exact I.after out
  | .ok .next, out => exact out.elim
  | .ok .brk, out => exact out.elim
  | .ok .cont, out => exact out.elim
end
/-! ### len(o) -/
def rLenO (K : PySem.W.Frag) (C : Addr) (sp : Sp) : List V → Hp → VK → Prop := fun xs H Q => ∃ a dx us, xs = [.ref a] ∧ H a = some (.ins C dx us) ∧ sp [.ref a] H (fun v H' => ∃ n : Nat, v = .int (n : Nat) ∧ n < 2 ^ 63 ∧ Q v H') E0
/-- a special method whose promise is known -/
structure CalldS (P : Program) (wd : World) (K : PySem.W.Frag) (mg : Str → Option Value) (base : Heap) (k : Nat) (C : Addr) (m : Str) (ps : List Str) (p : DSp) : Prop where
  ex : ∃ f fd, FnG P wd K mg base CX0 k f fd ps (liP K p) ∧ PySem.W.findIn K (.ref C) m = some (some (.ref f)) ∧ PySem.W.isFn K (.ref f) = true ∧ Binds K fd ps []
  mp : MoP p
theorem CalldM.toS {P : Program} {wd : World} {K : PySem.W.Frag} {mg : Str → Option Value} {base : Heap} {k : Nat} {C : Addr} {m : Str} {ps : List Str} {p : DSp} (c : CalldM P wd K mg base k C m ps p) : CalldS P wd K mg base k C m ps p := by
  obtain ⟨⟨f, fd, F, mt, bd⟩, cl, mp⟩ := c
  exact ⟨⟨f, fd, F, mt.at_, mt.fn, bd⟩, mp⟩
section
variable {X : Cx} {w : Wd} {e a b : Expr} {es : List Expr} {pos : Pos} {te ta tb : TDE} {C : Addr} {k : Nat} {ps : List Str} {p : DSp}
def lenO (K : PySem.W.Frag) (C : Addr) (p : DSp) : TDE → TDE := fun te r Q => te r fun d => (∃ fs, d = insD K C fs) ∧ p [d] fun x => ∃ n : Nat, x = .int (n : Nat) ∧ n < 2 ^ 63 ∧ Q x
theorem ped_lenO {q : Pos} (c : CalldS X.prog X.w X.K X.mg X.base k C "__len__" ["self"] p) (room : Room (k + 1) X.A) (hG : X.A.guards = some []) (hm : X.mg "len" = none) (he : PEd X w e te) (hg : Gl X "len" := by rfl) (st : starEach [e] X.env = (false, eval e X.env) :: starEach [] X.env := by rfl) (hpl : (backTo pos (starEach [] X.env)).any (·.1) = false := by rfl) :
    PEd X w (.Call (.Name "len" q) [e] [] pos) (lenO X.K C p te) := by
  obtain ⟨⟨f, fd, F, hs, hf, bd⟩, mp⟩ := c
  have cr : CallR X (.builtin "len") (rLenO X.K C (liP X.K p)) := by
    intro pins s σ H xs us Q I r h
    obtain ⟨a, dx, us', rfl, ha, hsp⟩ := h
    obtain ⟨u, rfl, ru⟩ := vals1 r
    cases (show u = Value.ref a from ru)
    obtain ⟨mA, J, _⟩ := ins_get I.hok ha
    obtain ⟨od, J, _⟩ := J.look
    obtain ⟨m0, hF⟩ := I.fr
    refine PySem.W.len_K hF I.ok.mod.kin J hs hf (wpAny_mono (run_GA F room.in1 rfl hG bd I (show Vals [V.ref a] [Value.ref a] from .cons rfl .nil) hsp) (fun u s' z => ?_) fun _ _ x => x)
    obtain ⟨v, H', I', rv, n, rfl, hn, q⟩ := z
    obtain ⟨t, rfl⟩ := rv
    exact ⟨⟨by omega, by omega⟩, .int (n : Nat), H', I'.tok _, ⟨_, rfl⟩, q⟩
  refine ⟨weE (pe_callB cr hg hm PySem.boot_len (pa_cons he.pe pa_nil st) (by decide) (by decide) (by exact st) (by exact hpl)) ?_, fun r Q Q' q h => he.mo _ _ _ (fun d z => ⟨z.1, mp _ _ _ (fun x ⟨n, e, h, z⟩ => ⟨n, e, h, q _ z⟩) z.2⟩) h⟩
  rintro σ H Q ⟨W, own, r, S, h⟩
  refine go1 he S h fun d v H1 e1 k1 d1 ⟨⟨fs, ed⟩, z⟩ => ?_
  subst ed
  obtain ⟨a, dx, us, rfl, at_a, fl⟩ := insD_at d1
  refine ⟨a, dx, us, rfl, (hid_some at_a).2, w.g, W, _, k1, .cons d1 .nil, mp _ _ _ (fun x ⟨n, ex, hn, q⟩ v H' e k dv => ?_) z⟩
  subst ex
  cases dv
  exact ⟨n, rfl, hn, q _ H' (e1.trans e) k (.int _)⟩
/-! ### o | o' -/
def rOrO (K : PySem.W.Frag) (C : Addr) (sp : Sp) : R2 := fun x y H Q => ∃ a b dx dy us us', x = .ref a ∧ y = .ref b ∧ H a = some (.ins C dx us) ∧ H b = some (.ins C dy us') ∧ sp [.ref a, .ref b] H (fun v H' => (∃ c, v = .ref c) ∧ Q v H') E0
def orO (K : PySem.W.Frag) (C : Addr) (p : DSp) : DD := fun x y Q => (∃ fs, x = insD K C fs) ∧ (∃ fs, y = insD K C fs) ∧ p [x, y] fun d => (∃ fs, d = insD K C fs) ∧ Q d
theorem ped_orO {ps2 : List Str} (c : CalldS X.prog X.w X.K X.mg X.base k C "__or__" ps2 p) (room : Room k X.A) (hG : X.A.guards = some []) (sf : PySem.W.selfFirst X.K C = true) (ha : PEd X w a ta) (hb : PEd X w b tb) : PEd X w (.BinOp a .BitOr b pos) (dOp (orO X.K C p) ta tb) := by
  obtain ⟨⟨f, fd, F, hs, hf, bd⟩, mp⟩ := c
  refine ped_bin (R := rOrO X.K C (liP X.K p)) ?_ (fun x y Q Q' q z => ⟨z.1, z.2.1, mp _ _ _ (fun d h => ⟨h.1, q _ h.2⟩) z.2.2⟩) ?_ ha hb
  · intro pins s σ H x y v u Q I rx ry h
    obtain ⟨a, b, dx, dy, us, us', rfl, rfl, h1, h2, hsp⟩ := h
    cases (show v = Value.ref a from rx)
    cases (show u = Value.ref b from ry)
    obtain ⟨mA, J, _⟩ := ins_get I.hok h1
    obtain ⟨mB, J', _⟩ := ins_get I.hok h2
    obtain ⟨od, J, _⟩ := J.look
    obtain ⟨od', J', _⟩ := J'.look
    obtain ⟨m0, hF⟩ := I.fr
    refine PySem.W.binop_K (op := .BitOr) hF I.ok.mod.kin J J'.type sf hs hf (wpAny_mono (run_GA F room rfl hG bd I (show Vals [V.ref a, V.ref b] [Value.ref a, Value.ref b] from .cons rfl (.cons rfl .nil)) hsp) (fun u s' z => ?_) fun _ _ x => x)
    obtain ⟨v, H', I', rv, ⟨c, rfl⟩, q⟩ := z
    cases (show u = Value.ref c from rv)
    exact ⟨.ref c, H', I', rfl, q⟩
  · rintro g W H v u x y Q k1 dx dy ⟨⟨fs, rfl⟩, ⟨gs, rfl⟩, z⟩
    obtain ⟨a, da, us, rfl, at_a, _⟩ := insD_at dx
    obtain ⟨b, db, us', rfl, at_b, _⟩ := insD_at dy
    refine ⟨a, b, da, db, us, us', rfl, rfl, (hid_some at_a).2, (hid_some at_b).2, g, W, _, k1, .cons dx (.cons dy .nil), mp _ _ _ (fun d ⟨⟨hs', ed⟩, q⟩ v H' e k dv => ?_) z⟩
    subst ed
    obtain ⟨c, dc, uc, rfl, _, _⟩ := insD_at dv
    exact ⟨⟨c, rfl⟩, q _ H' e k dv⟩
/-! ### in, of data -/
def inD (neg : Bool) : DD := fun x y Q => ∃ ds, y = .lst ds ∧ shp x = true ∧ shp y = true ∧ Q (.bl (if neg then !ds.any fun z => eqd z x else ds.any fun z => eqd z x))
theorem inD_mo {n : Bool} : Mo2 (inD n) := fun _ _ _ _ q ⟨ds, a, b, c, z⟩ => ⟨ds, a, b, c, q _ z⟩
theorem any_toPs {x : Da} : ∀ ds : List Da, ((toPs ds).any fun z => PyData.eqv z (toP x)) = ds.any fun z => eqd z x
  | [] => rfl
  | d :: ds => by rw [toPs, List.any_cons, List.any_cons, any_toPs ds]; rfl
theorem inD_br : Br2 X.K (rInD X.K) (inD false) := by
  rintro g W H v u x y Q k dx dy ⟨ds, rfl, h1, h2, z⟩
  obtain ⟨a1, a2⟩ := shp_dp dx h1
  obtain ⟨b1, b2⟩ := shp_dp dy h2
  rw [toP] at b1 b2
  refine ⟨_, _, a1, b1, a2, b2, ?_⟩
  rw [any_toPs]
  exact z.now k (.bl _)
theorem ped_inD {j : Nat} (hr : Room j X.A) (ha : PEd X w a ta) (hb : PEd X w b tb) (hm : behindInMarks .In b = false := by rfl) : PEd X w (.Compare a [.In] [b] pos) (dOp (inD false) ta tb) := ped_cmp (op_inD (by have := hr.un; omega)) hm inD_mo inD_br ha hb
theorem ptd_inD {j : Nat} (hr : Room j X.A) (ha : PEd X w a ta) (hb : PEd X w b tb) (hm : behindInMarks .In b = false := by rfl) : PTd X w (.Compare a [.In] [b] pos) (dB (dOp (inD false) ta tb)) := ptd_cmp (op_inD (by have := hr.un; omega)) hm inD_mo inD_br ha hb
/-! ### any -/
def anyD : DB := fun ds Q => ∃ bs : List Bool, ds = [.lst (bs.map .bl)] ∧ Q (.bl (bs.any id))
theorem ped_any {q : Pos} {t : TDA} (hm : X.mg "any" = none) (args : PAd X w (e :: es) t) (hc : X.calm = true := by rfl) (hg : Gl X "any" := by rfl) (he : starEach (e :: es) X.env = (false, eval e X.env) :: starEach es X.env := by rfl) (hpl : (backTo pos (starEach es X.env)).any (·.1) = false := by rfl) :
    PEd X w (.Call (.Name "any" q) (e :: es) [] pos) (dCall anyD t) := by
  refine ped_callB (cr_any hc) (fun ds Q Q' q ⟨x, a, h⟩ => ⟨x, a, q _ h⟩) ?_ hm (by decide +kernel) args hg (by decide) (by decide) he hpl
  rintro g W H vs ds Q k dv ⟨is, rfl, h⟩
  obtain ⟨v, rfl, dx⟩ := dv.one
  cases dx with
  | lst a1 a2 =>
    have ei := a2.bls
    subst ei
    exact ⟨_, is, rfl, SqL.of (hid_some a1).2, h.now k (.bl _)⟩
/-! ### a list or a tuple, walked -/
theorem pi_or {tg : Expr} {t u : TI} (h1 : PI X tg e t) (h2 : PI X tg e u) : PI X tg e (fun σ H R => t σ H R ∨ u σ H R) := ⟨fun pins s σ H R I z => z.elim (h1.run pins s σ H R I) (h2.run pins s σ H R I)⟩
def dItLT (t : TDE) : TDI := fun r Q => t r fun d => ∃ ds, ((d = .lst ds) ∨ itemsOf d = some ds) ∧ Q ds
theorem pid_seq {tg : Expr} {i : Nat} {x : Str} {q : Pos} (h : PEd X w (.Name x q) (dVar i)) : PId X w tg (.Name x q) (dItLT (dVar i)) := by
  have hL := pid_list (tg := tg) h
  have hT := pid_tup (tg := tg) h
  refine ⟨weI (pi_or hL.pi hT.pi) ?_, fun r Q Q' q z => h.mo _ _ _ (fun d ⟨ds, e, z⟩ => ⟨ds, e, q _ z⟩) z⟩
  rintro σ H R ⟨W, own, r, S, d, hd, ds, ed, z⟩
  rcases ed with ed | ed
  · exact .inl ⟨W, own, r, S, d, hd, ds, ed, z⟩
  · exact .inr ⟨W, own, r, S, d, hd, ds, ed, z⟩
end
/-! ### for i, (a, b, c) in .. -/
def dgTup13 (i j k l : Nat) : TDG := fun d r Q => ∃ x y a b c, itemsOf d = some [x, y] ∧ itemsOf y = some [a, b, c] ∧ Q ((((r.set i (.dat x)).set j (.dat a)).set k (.dat b)).set l (.dat c))
theorem gd_tup13 {K : PySem.W.Frag} (i j k l : Nat) : GDt K (gTup K 2 (gCons (gName i) (gCons (gTup K 3 (gCons (gName j) (gCons (gName k) (gCons (gName l) gNil)))) gNil))) (dgTup13 i j k l) [i, j, k, l] := by
  refine ⟨fun w W own r σ H v d Q S dv h => ?_, fun d r Q Q' q ⟨x, y, a, b, c, e, e2, z⟩ => ⟨x, y, a, b, c, e, e2, q _ z⟩⟩
  obtain ⟨x, y, a, b, c, e, e2, h⟩ := h
  obtain ⟨t, xs, rfl, hq, hd⟩ := items_sq dv e
  cases hd with
  | cons d1 t1 =>
    cases t1 with
    | cons d2 t2 =>
      cases t2
      obtain ⟨u, ys, rfl, hq2, hd2⟩ := items_sq d2 e2
      cases hd2 with
      | cons p1 q1 =>
        cases q1 with
        | cons p2 q2 =>
          cases q2 with
          | cons p3 q3 =>
            cases q3
            obtain ⟨o1, S1⟩ := S.set (i := i) d1
            obtain ⟨o2, S2⟩ := S1.set (i := j) p1
            obtain ⟨o3, S3⟩ := S2.set (i := k) p2
            obtain ⟨o4, S4⟩ := S3.set (i := l) p3
            refine ⟨t, _, rfl, hq, rfl, _, _, rfl, _, _, rfl, ⟨u, _, rfl, hq2, rfl, _, _, rfl, _, _, rfl, _, _, rfl, rfl, ⟨rfl, rfl, fun us hu => ?_, o4, _, S4, h⟩⟩⟩
            rw [wipe_set (hu l (by simp)), wipe_set (hu k (by simp)), wipe_set (hu j (by simp)), wipe_set (hu i (by simp))]
/-! ### __iter__ by its body -/
theorem iterAt_mk {P : Program} {wd : World} {K : PySem.W.Frag} {mg : Str → Option Value} {base : Heap} {qual f : Str} {st : Stmt} {C : Addr} {N : List Str} {p1 p2 p3 p4 p5 : Pos} (At : MethAt K C "__iter__" qual st ["self"]) (cl : Cls K C) (na : NoAttr K C f) (S : FnScope N ["self"] (defScope st)) (mi : mg "iter" = none)
    (body : defBody st = [.Return (some (.Call (.Name "iter" p1) [.Attribute (.Name "self" p2) f p3] [] p4)) p5]) (N0 : N[0]? = some ("self" : Str)) (gi : (defScope st).names.lookup ("iter" : Str) = some .globalImplicit) (vs : (defScope st).names.lookup ("self" : Str) = some .local) (h0 : ∀ a : Addr, (L2.start N [V.ref a])[0]? = some (some (V.ref a))) : IterAt P wd K mg base 1 C f := by
  obtain ⟨g, fd, F, mt, bd⟩ := At.ex
  refine ⟨g, fd, FunG.okN F S ?_ ?_, mt.at_, mt.fn, bd⟩
  · rintro n vs H Q E ⟨a, dx, us, l, xs, rfl, _⟩
    rfl
  · rintro cdv A outer s0 H vs' Q E room hG ⟨a, dx, us, l, xs, rfl, ha, hu, hq, z⟩
    refine ⟨_, by rw [body]; exact pss_one (ps_ret (pe_callB call_iterT gi mi (by decide +kernel) (pa_cons (pe_fld (pv 0 N0 (.inl vs) (by decide) (by decide)) (by rfl)) pa_nil (by rfl)))), ?_⟩
    exact ⟨.ref a, h0 a, a, C, dx, us, .ref l, rfl, ha, cl, na, hu, l, xs, rfl, hq, fun it n m => z it n m⟩
end Pd
/-! xs[i] = e, xs a list of one's own; isinstance(x, (list, tuple)). -/
namespace Pd
open PySem PySem.Spec PyProof.Rows L2
theorem DvAll.st {K : PySem.W.Frag} {g : Option Addr} {H : Hp} {v : V} {d : Da} (h : Dv K g H v d) : ∀ {xs : List V} {ds : List Da} (j : Nat), DvAll K g H xs ds → DvAll K g H (xs.set j v) (ds.set j d)
  | _, _, _, .nil => .nil
  | _, _, 0, .cons a t => .cons h t
  | _, _, j + 1, .cons a t => .cons a (DvAll.st h j t)
section
variable {X : Cx} {w : Wd} {e f : Expr} {te ti : TDE} {pos : Pos}
def dOwnSet (i : Nat) (te ti : TDE) : TDS := fun E r => te r fun d => ∃ ds, r[i]? = some (.own ds) ∧ ti r fun y => ∃ n j, y = .int n ∧ ixN ds.length n = some j ∧ E.nx (r.set i (.own (ds.set j d)))
theorem psd_ownSet {i : Nat} {x : Str} {p pt : Pos} (he : PEd X w e te) (hf : PEd X w f ti) (hN : X.N[i]? = some x := by rfl) (hv : Vis X.env.scope x := by first | exact Or.inl rfl | exact Or.inr (Or.inl rfl) | exact Or.inr (Or.inr rfl)) (hd : (x == ("__debug__" : Str)) = false := by decide) (hcd : (x == ("__classdict__" : Str)) = false := by decide)
    (ha : ∀ v, assign (.Subscript (.Name x p) f pt) X.env v = (do
      let ov ← holding [v] (eval (.Name x p) X.env)
      let iv ← holding [v, ov] (eval f X.env)
      standAt pt
      holding [v, ov, iv] (setItem ov iv v)
      release [v, ov, iv] []) := by intro _; rfl)
    (hs : swapsWithSole [.Subscript (.Name x p) f pt] e pos.line X.env = pure false := by rfl) (hw : swappedStores [.Subscript (.Name x p) f pt] e X.env = pure none := by rfl)
    (h1 : (assignEach [.Subscript (.Name x p) f pt] X.env).map (·.2) = [assign (.Subscript (.Name x p) f pt) X.env] := by rfl) :
    PSd X w (.Assign [.Subscript (.Name x p) f pt] e pos) (dOwnSet i te ti) := by
  refine ⟨weS (ps_asg he.pe (pg_sub (pv i hN hv hd hcd) hf.pe set_list ha) hs hw h1) ?_, fun E E' r l h => he.mo _ _ _ (fun d ⟨ds, a, z⟩ => ⟨ds, a, hf.mo _ _ _ (fun y ⟨n, j, b, c, q⟩ => ⟨n, j, b, c, l.nx _ q⟩) z⟩) h⟩
  rintro D σ H ⟨W, own, r, S, h⟩
  refine go1 he S h fun d v H1 e1 k1 d1 ⟨ds, hr, z⟩ => ?_
  have S1 := S.ext e1 k1
  obtain ⟨u, hu, a, xs, o1, rfl, o3, o4⟩ := S1.sl i _ hr (fun z => by cases z)
  refine ⟨.ref a, hu, ?_⟩
  refine go1 hf S1 z fun y u2 H2 e2 k2 d2 ⟨n, j, ey, hj, q⟩ => ?_
  subst ey
  cases d2
  have S2 := S1.ext e2 k2
  obtain ⟨v', hv', a', xs', q1, q2, q3, q4⟩ := S2.sl i _ hr (fun z => by cases z)
  cases o1.2 _ q1.1
  obtain ⟨S', gr⟩ := S2.setOwn (ys := xs'.set j v) (es := ds.set j d) o1 hr (DvAll.st (Dv.mono (e2.hid k1.gW) _ _ d1) j q4)
  exact ⟨a, xs', n, j, rfl, rfl, q3, by rw [q4.len]; exact hj, q W own σ _ ((Grow.of k2 (e1.trans e2)).trans gr) S'⟩
/-- isinstance(x, (list, tuple)) -/
def dIsi2 (S T : String) (te : TDE) : TDE := fun r Q => te r fun x => ∃ t y z, tyD x = some t ∧ kitB t S = some y ∧ kitB t T = some z ∧ Q (.bl (y || z))
theorem ped_isi2 {S T : String} {x y : Str} {p p1 p2 p3 : Pos} {c} (hm : X.mg "isinstance" = none) (he : PEd X w e te) (hx : X.mg x = none) (hy : X.mg y = none) (hvx : bootBuiltins x = some (.type S)) (hvy : bootBuiltins y = some (.type T)) (hnx : x ≠ "__name__" := by decide) (hny : y ≠ "__name__" := by decide) (hdx : (x == ("__debug__" : Str)) = false := by decide) (hdy : (y == ("__debug__" : Str)) = false := by decide)
    (hg : Gl X "isinstance" := by rfl) (hgx : Gl X x := by rfl) (hgy : Gl X y := by rfl)
    (st : starEach [e, .Tuple [.Name x p1, .Name y p2] c p3] X.env = (false, eval e X.env) :: starEach [.Tuple [.Name x p1, .Name y p2] c p3] X.env := by rfl) (st2 : starEach [.Tuple [.Name x p1, .Name y p2] c p3] X.env = (false, eval (.Tuple [.Name x p1, .Name y p2] c p3) X.env) :: starEach [] X.env := by rfl)
    (st3 : starEach [.Name x p1, .Name y p2] X.env = (false, eval (.Name x p1) X.env) :: starEach [.Name y p2] X.env := by rfl) (st4 : starEach [.Name y p2] X.env = (false, eval (.Name y p2) X.env) :: starEach [] X.env := by rfl) (hpl : (backTo pos (starEach [.Tuple [.Name x p1, .Name y p2] c p3] X.env)).any (·.1) = false := by rfl) :
    PEd X w (.Call (.Name "isinstance" p) [e, .Tuple [.Name x p1, .Name y p2] c p3] [] pos) (dIsi2 S T te) := by
  refine ⟨weE (pe_callB call_isiT hg hm (by decide +kernel) (pa_cons he.pe (pa_cons (pe_tup (pa_cons (pe_bltn (v := .ty S) hgx hx hvx rfl hnx hdx) (pa_cons (pe_bltn (v := .ty T) hgy hy hvy rfl hny hdy) pa_nil st4) st3)) pa_nil st2) st) (by decide) (by decide) (by exact st) (by exact hpl)) ?_, fun r Q Q' q h => he.mo _ _ _ (fun d ⟨t, y, z, h1, h2, h3, h4⟩ => ⟨t, y, z, h1, h2, h3, q _ h4⟩) h⟩
  rintro σ H Q ⟨W, own, r, S1, z⟩
  refine go1 he S1 z fun d v H1 e1 k1 d1 ⟨t, y, z, h1, h2, h3, h4⟩ => ?_
  refine ⟨show 2 ≤ sizeLine by decide, fun tp np => ?_⟩
  obtain ⟨n1, n2, n3, n4⟩ := k1.new (o := .tup [.ty S, .ty T]) np
  refine ⟨v, tp, [.ty S, .ty T], .type t, [.type S, .type T], y || z, rfl, upd_same, .cons (.ty S) (.cons (.ty T) .nil), tyD_x (Dv.mono n3 _ _ d1) h1, ?_, h4 (.bl _) _ (e1.trans n1) n2 (.bl _)⟩
  refine kitAny_cons (kit_ty h2) (fun hb => ?_) (fun hb => by rw [hb, Bool.true_or])
  subst hb
  rw [Bool.false_or]
  refine kitAny_cons (kit_ty h3) (fun hb => ?_) (fun hb => hb)
  subst hb
  exact kitAny_nil
end
end Pd
/-! key in dict, len(dict); more room. -/
namespace Pd
open PySem PySem.Spec PyProof.Rows L2
section
variable {X : Cx} {w : Wd} {e f a b : Expr} {es : List Expr} {te ti ta tb : TDE} {pos : Pos}
def rInK : R2 := fun x y H Q => ∃ p o, y = .ref p ∧ DGet H p x (some o) ∧ Q (.bl true) H
theorem op_inK {k : Nat} (hr : Room k X.A) : OpR X (compareOp .In) rInK := by
  intro pins s σ H x y v u Q I rx ry h
  obtain ⟨p, o, rfl, g, q⟩ := h
  cases (show u = Value.ref p from ry)
  exact d_in (hu_of hr) I g rx fun s' I' => ⟨.bl true, H, I', rfl, q⟩
/-- a text that is a key of a dict -/
def inKD : DD := fun x y Q => ∃ t kvs d, x = .str t ∧ y = .dct kvs ∧ valD kvs (.inr t) = some d ∧ Q (.bl true)
theorem inKD_mo : Mo2 inKD := fun _ _ _ _ q ⟨t, ds, d, a, b, c, z⟩ => ⟨t, ds, d, a, b, c, q _ z⟩
theorem inK_br : Br2 X.K rInK inKD := by
  rintro g W H v u x y Q k dx dy ⟨t, kvs, d, rfl, rfl, hv, z⟩
  cases dx
  cases dy with
  | @dct c us _ a1 a2 =>
    obtain ⟨v', h1, h2⟩ := a2.val hv
    refine ⟨c, v', rfl, ?_, z.now k (.bl _)⟩
    rw [← h1]
    exact DGet.k (k := .inr t) (hid_some a1).2
theorem ped_inK {j : Nat} (hr : Room j X.A) (ha : PEd X w a ta) (hb : PEd X w b tb) (hm : behindInMarks .In b = false := by rfl) : PEd X w (.Compare a [.In] [b] pos) (dOp inKD ta tb) := ped_cmp (op_inK hr) hm inKD_mo inK_br ha hb
def lenKD : DB := fun ds Q => ∃ kvs, ds = [.dct kvs] ∧ Q (.int (kvs.length : Nat))
theorem ped_lenK {p : Pos} {t : TDA} (hm : X.mg "len" = none) (args : PAd X w (e :: es) t) (hg : Gl X "len" := by rfl) (he : starEach (e :: es) X.env = (false, eval e X.env) :: starEach es X.env := by rfl) (hpl : (backTo pos (starEach es X.env)).any (·.1) = false := by rfl) :
    PEd X w (.Call (.Name "len" p) (e :: es) [] pos) (dCall lenKD t) := by
  refine ped_callB call_lenD (fun ds Q Q' q ⟨x, a, h⟩ => ⟨x, a, q _ h⟩) ?_ hm PySem.boot_len args hg (by decide) (by decide) he hpl
  rintro g W H vs ds Q k dv ⟨kvs, rfl, h⟩
  obtain ⟨v, rfl, dx⟩ := dv.one
  cases dx with
  | @dct c us _ a1 a2 =>
    refine ⟨c, us, rfl, (hid_some a1).2, ?_⟩
    rw [KvAll.len a2]
    exact h.now k (.int _)
end
section
variable {P : Program} {wd : World} {K : PySem.W.Frag} {mg : Str → Option Value} {base : Heap} {j k : Nat} {C : Addr} {m x : Str} {ps : List Str} {p : DSp}
theorem CalldM.up (c : CalldM P wd K mg base j C m ps p) (h : j ≤ k) : CalldM P wd K mg base k C m ps p := by
  obtain ⟨⟨f, fd, F, mt, bd⟩, cl, mp⟩ := c
  exact ⟨⟨f, fd, F.up h, mt, bd⟩, cl, mp⟩
theorem CalldS.up (c : CalldS P wd K mg base j C m ps p) (h : j ≤ k) : CalldS P wd K mg base k C m ps p := by
  obtain ⟨⟨f, fd, F, mt, bd⟩, mp⟩ := c
  exact ⟨⟨f, fd, F.up h, mt, bd⟩, mp⟩
theorem CalldP.up (c : CalldP P wd K mg base j C m p) (h : j ≤ k) : CalldP P wd K mg base k C m p := by
  obtain ⟨⟨a, f, fd, F, mt, bd⟩, cl, mp⟩ := c
  exact ⟨⟨a, f, fd, F.up h, mt, bd⟩, cl, mp⟩
theorem CalldI.up {q : List Da → (List (Str × Da) → Prop) → Prop} (c : CalldI P wd K mg base j x C ps q) (h : j ≤ k) : CalldI P wd K mg base k x C ps q := by
  obtain ⟨⟨f, fd, F, mt, a, bd⟩, mp⟩ := c
  exact ⟨⟨f, fd, F.up h, mt, a, bd⟩, mp⟩
theorem FnGN.up {CX : CXT} {f : Addr} {fd : FuncData} {sp : Nat → Sp} (F : FnGN P wd K mg base CX j f fd ps sp) (h : j ≤ k) : FnGN P wd K mg base CX k f fd ps sp :=
  ⟨F.many, fun A outer s0 H args us vs Q E room => F.goes A outer s0 H args us vs Q E (room.mono h)⟩
theorem IterAt.up (c : IterAt P wd K mg base j C m) (h : j ≤ k) : IterAt P wd K mg base k C m := by
  obtain ⟨f, fd, F, a, b, bd⟩ := c.ex
  exact ⟨f, fd, F.up h, a, b, bd⟩
end
end Pd
/-! sorted texts are sorted. -/
namespace Pd
open PySem PySem.Spec PyProof.Rows L2
theorem rising_of : ∀ (l : List Str) (p : Str), (p :: l).Pairwise leS → risingS p l = true
  | [], _, _ => rfl
  | x :: l, p, h => by
    obtain ⟨h1, h2⟩ := List.pairwise_cons.mp h
    unfold risingS
    rw [Bool.and_eq_true]
    refine ⟨?_, rising_of l x h2⟩
    have z := h1 x List.mem_cons_self
    have : ltCps x.cps.toList p.cps.toList = false := by
      rw [ltCps_eq]
      exact decide_eq_false z
    rw [this]
    rfl
theorem sorted_of {l : List Str} (h : l.Pairwise leS) : sortedS l = true := by
  cases l with
  | nil => rfl
  | cons x l => exact rising_of l x h
theorem le_str {x y : Str} (h : PySem.W.dataLe false toP (.str x) (.str y) = true) : leS x y := by
  intro z
  unfold PySem.W.dataLe at h
  unfold PySem.W.sortLe at h
  have e : PyProof.Rows.lexLt PyProof.Rows.itemOrd (PySem.W.keyToks (toP (.str y))) (PySem.W.keyToks (toP (.str x))) = true := by
    have e1 : toP (.str y) = .str y := by unfold toP; rfl
    have e2 : toP (.str x) = .str x := by unfold toP; rfl
    rw [e1, e2, PySem.W.keyToks, PySem.W.keyToks]
    have ne : (Sum.inr y.cps.toList : Int ⊕ List Nat) ≠ Sum.inr x.cps.toList := fun q => by
      have := Sum.inr.inj q
      rw [this] at z
      exact absurd z (List.lt_irrefl _)
    rw [PyProof.Rows.lex_diff (O := PyProof.Rows.itemOrd) ne]
    show PyProof.Rows.strKind.blt y.cps.toList x.cps.toList = true
    exact decide_eq_true z
  have h' : (!PyProof.Rows.lexLt PyProof.Rows.itemOrd (PySem.W.keyToks (toP (.str y))) (PySem.W.keyToks (toP (.str x)))) = true := h
  rw [e] at h'
  cases h'
theorem srt_strsS {a : List Str} : ∃ b : List Str, srt (a.map .str) = b.map .str ∧ b.Perm a ∧ sortedS b = true := by
  obtain ⟨b, e, p⟩ := srt_strs (a := a)
  refine ⟨b, e, p, sorted_of ?_⟩
  have t := PySem.W.sortLe_total (PyProof.Rows.listOrd PyProof.Rows.itemOrd) false fun b : Da => PySem.W.keyToks (toP b)
  have h := List.pairwise_mergeSort (le := PySem.W.dataLe false toP) t.trans (fun a b => (Bool.or_eq_true _ _).mpr (t.total a b)) (a.map .str)
  have h2 : (b.map Da.str).Pairwise fun x y => PySem.W.dataLe false toP x y = true := by
    have e' : (a.map Da.str).mergeSort (PySem.W.dataLe false toP) = b.map .str := e
    rw [← e']
    exact h
  rw [List.pairwise_map] at h2
  exact h2.imp fun h => le_str h
end Pd
/-! Comprehensions over what a list of things makes: with a test (place by place), without. -/
namespace Pd
open PySem PySem.Spec PyProof.Rows L2
theorem lcD_sel {gd : TDG} {tt : TDT} {te : TDE} {vs : List Nat} {r : En} {Q : Da → Prop} : ∀ (ds : List Da) (sel : List (Option Da)) (acc : List Da), sel.length = ds.length → acc.length + ds.length ≤ 16777216 →
    (∀ (k : Nat) (h1 : k < ds.length) (h2 : k < sel.length) (P : Bool → Da → Prop), (∀ y, sel[k] = some y → P true y) → (sel[k] = none → P false .non) → gd ds[k] (wipeD r vs) fun r2 => tt r2 fun b => if b = true then te r2 (P true) else P false .non) →
    Q (.lst (acc ++ sel.filterMap id)) → lcD gd tt te vs r Q ds acc
  | [], [], acc, _, _, _, q => by
    have z : Q (.lst (acc ++ [])) := q
    rw [List.append_nil] at z
    exact z
  | [], _ :: _, _, e, _, _, _ => by cases e
  | _ :: _, [], _, e, _, _, _ => by cases e
  | d :: ds, s :: sel, acc, e, hl, h, q => by
    rw [List.length_cons] at hl
    refine h 0 (Nat.zero_lt_succ _) (Nat.zero_lt_succ _) (fun b y => if b = true then acc.length < sizeLine ∧ lcD gd tt te vs r Q ds (acc ++ [y]) else lcD gd tt te vs r Q ds acc) (fun y hp => ?_) (fun hp => ?_)
    · rw [if_pos rfl]
      have hp : s = some y := hp
      subst hp
      refine ⟨by rw [sizeLine_eq]; omega, lcD_sel ds sel _ (by simpa using e) (by rw [List.length_append]; show acc.length + 1 + _ ≤ _; omega) (fun k h1 h2 => h (k + 1) (Nat.succ_lt_succ h1) (Nat.succ_lt_succ h2)) ?_⟩
      rw [List.append_assoc]
      exact q
    · rw [if_neg Bool.false_ne_true]
      have hp : s = none := hp
      subst hp
      exact lcD_sel ds sel _ (by simpa using e) (by omega) (fun k h1 h2 => h (k + 1) (Nat.succ_lt_succ h1) (Nat.succ_lt_succ h2)) q
/-- over ts.map f: the items of which p is so, made by g -/
theorem lcD_selM {α : Type} {gd : TDG} {tt : TDT} {te : TDE} {vs : List Nat} {r : En} {Q : Da → Prop} (f : α → Da) (p : α → Bool) (g : α → Da) (ts : List α) (hl : ts.length ≤ 16777216)
    (h : ∀ t ∈ ts, ∀ P : Bool → Da → Prop, (p t = true → P true (g t)) → (p t = false → P false .non) → gd (f t) (wipeD r vs) fun r2 => tt r2 fun b => if b = true then te r2 (P true) else P false .non)
    (q : Q (.lst ((ts.filter p).map g))) : lcD gd tt te vs r Q (ts.map f) [] := by
  refine lcD_sel (ts.map f) (ts.map fun t => if p t = true then some (g t) else none) [] (by simp) (by simpa using hl) (fun k h1 h2 P hy hn => ?_) ?_
  · rw [List.length_map] at h1
    simp only [List.getElem_map] at hy hn ⊢
    refine h _ (List.getElem_mem h1) P (fun e => hy _ (if_pos e)) (fun e => hn (if_neg (by rw [e]; exact Bool.false_ne_true)))
  · have e : ([] : List Da) ++ (ts.map fun t => if p t = true then some (g t) else none).filterMap id = (ts.filter p).map g := by
      rw [List.nil_append, List.filterMap_map]
      clear hl h q
      induction ts with
      | nil => rfl
      | cons t ts ih =>
        by_cases e : p t = true
        · rw [List.filter_cons_of_pos e, List.map_cons, ← ih]
          exact List.filterMap_cons_some (if_pos e)
        · rw [List.filter_cons_of_neg e, ← ih]
          exact List.filterMap_cons_none (if_neg e)
    rw [e]
    exact q
/-- .. without a test -/
theorem lcD_mapM {α : Type} {gd : TDG} {te : TDE} {vs : List Nat} {r : En} {Q : Da → Prop} (f : α → Da) (g : α → Da) (ts : List α) (hl : ts.length ≤ 16777216)
    (h : ∀ t ∈ ts, ∀ P : Da → Prop, P (g t) → gd (f t) (wipeD r vs) fun r2 => te r2 P) (q : Q (.lst (ts.map g))) : lcD gd dYes te vs r Q (ts.map f) [] := by
  refine lcD_ix0 (ts.map f) (ts.map g) (by simp) (by simpa using hl) (fun k h1 h2 P hP => ?_) q
  rw [List.length_map] at h1
  simp only [List.getElem_map] at hP ⊢
  exact h _ (List.getElem_mem h1) P hP
theorem enumD_map {α : Type} (f : α → Da) (ts : List α) : enumD (ts.map f) = ts.zipIdx.map fun p => .tpw [.int (p.2 : Nat), f p.1] := by
  unfold enumD
  rw [List.zipIdx_map, List.map_map]
  rfl
end Pd
/-! Equal dicts of numbers. -/
namespace Pd
open PySem PySem.Spec PyProof.Rows L2
def intsK (kvs : List (Key × Da)) : Prop := ∀ p ∈ kvs, ∃ i : Int, p.2 = .int i
theorem KvAll.ints {K : PySem.W.Frag} {g g' : Option Addr} {H H' : Hp} : ∀ {kvs : List (Key × Da)} {us vs : List (Key × V)}, intsK kvs → KvAll K g H us kvs → KvAll K g' H' vs kvs → us = vs ∧ ∀ p ∈ us, flatB p.2 = true
  | [], _, _, _, .nil, .nil => ⟨rfl, fun _ h => nomatch h⟩
  | (k, d) :: kvs, _, _, h, .cons a1 a2, .cons b1 b2 => by
    obtain ⟨e, fl⟩ := KvAll.ints (fun p hp => h p (List.mem_cons_of_mem _ hp)) a2 b2
    obtain ⟨i, hi⟩ := h (k, d) List.mem_cons_self
    have hi : d = .int i := hi
    subst hi
    cases a1
    cases b1
    subst e
    refine ⟨rfl, fun p hp => ?_⟩
    rcases List.mem_cons.mp hp with z | z
    · rw [z]; rfl
    · exact fl p z
section
variable {X : Cx} {w : Wd} {a b : Expr} {ta tb : TDE} {pos : Pos}
def eqWD : DD := fun x y Q => ∃ kvs, x = .dct kvs ∧ y = .dct kvs ∧ (kvs.map (·.1)).Nodup ∧ intsK kvs ∧ Q (.bl true)
theorem eqWD_mo : Mo2 eqWD := fun _ _ _ _ q ⟨k, a, b, c, d, z⟩ => ⟨k, a, b, c, d, q _ z⟩
theorem eqWD_br : Br2 X.K (fun x y H Q => ∃ a b kvs, x = .ref a ∧ y = .ref b ∧ H a = some (.dK kvs) ∧ H b = some (.dK kvs) ∧ (kvs.map (·.1)).Nodup ∧ (∀ p ∈ kvs, flatB p.2 = true) ∧ Q (.bl true) H) eqWD := by
  rintro g W H v u x y Q k dx dy ⟨kvs, rfl, rfl, nd, hi, z⟩
  cases dx with
  | @dct c us _ a1 a2 =>
    cases dy with
    | @dct c' vs _ b1 b2 =>
      obtain ⟨e, fl⟩ := KvAll.ints hi a2 b2
      subst e
      exact ⟨c, c', us, rfl, rfl, (hid_some a1).2, (hid_some b1).2, by rw [KvAll.keys a2]; exact nd, fl, z.now k (.bl _)⟩
theorem ped_eqW {k : Nat} (hr : Room k X.A) (ha : PEd X w a ta) (hb : PEd X w b tb) : PEd X w (.Compare a [.Eq] [b] pos) (dOp eqWD ta tb) := ped_cmp (op_eq_dict (Nat.lt_of_succ_lt (hu_of hr))) (nobehind _ (by decide) (by decide)) eqWD_mo eqWD_br ha hb
end
end Pd
/-! Calls of own methods within comprehensions: the frag is named. -/
namespace Pd
open PySem PySem.Spec PyProof.Rows L2
section
variable {X : Cx} {w : Wd} {e o : Expr} {es : List Expr} {pos : Pos} {apos : Pos} {te to : TDE} {t : TDA} {C : Addr} {k : Nat} {m : Str} {ps : List Str} {p : DSp}
theorem ped_lenOK {q : Pos} (K' : PySem.W.Frag) (c : CalldS X.prog X.w K' X.mg X.base k C "__len__" ["self"] p) (room : Room (k + 1) X.A) (hG : X.A.guards = some []) (hm : X.mg "len" = none) (he : PEd X w e te) (hk : X.K = K' := by rfl) (hg : Gl X "len" := by rfl) (st : starEach [e] X.env = (false, eval e X.env) :: starEach [] X.env := by rfl) (hpl : (backTo pos (starEach [] X.env)).any (·.1) = false := by rfl) :
    PEd X w (.Call (.Name "len" q) [e] [] pos) (lenO K' C p te) := by
  subst hk
  exact ped_lenO c room hG hm he hg st hpl
theorem ped_methIK {pl : Sem Bool} (K' : PySem.W.Frag) (c : CalldM X.prog X.w K' X.mg X.base k C m ps p) (room : Room k X.A) (hG : X.A.guards = some []) (ho : PEd X w o to) (args : PAd X w (e :: es) t) (hk : X.K = K' := by rfl)
    (st : starEach (e :: es) X.env = (false, eval e X.env) :: starEach es X.env := by rfl) (bk : (backTo pos (starEach es X.env)).any (·.1) = false := by rfl)
    (tree : eval (.Call (.Attribute o m apos) (e :: es) [] pos) X.env = (do
      let rv ← eval o X.env
      standAt apos.atName
      let (fv, fst) ← holding [rv] (getMethod rv m pl)
      callWith pos fv fst (backTo pos (starEach (e :: es) X.env)) (backToKw pos (keywordEach [] X.env))) := by rfl) :
    PEd X w (.Call (.Attribute o m apos) (e :: es) [] pos) (fun r Q => to r fun d => (∃ fs, d = insD K' C fs ∧ fs.lookup m = none) ∧ t r fun ds => p (d :: ds) Q) := by
  subst hk
  exact ped_methI c room hG ho args st bk tree
theorem ped_methI0K {pl : Sem Bool} (K' : PySem.W.Frag) (c : CalldM X.prog X.w K' X.mg X.base k C m ps p) (room : Room k X.A) (hG : X.A.guards = some []) (ho : PEd X w o to) (hk : X.K = K' := by rfl)
    (tree : eval (.Call (.Attribute o m apos) [] [] pos) X.env = (do
      let rv ← eval o X.env
      standAt apos.atName
      let (fv, fst) ← holding [rv] (getMethod rv m pl)
      callWith pos fv fst (backTo pos (starEach [] X.env)) (backToKw pos (keywordEach [] X.env))) := by rfl) :
    PEd X w (.Call (.Attribute o m apos) [] [] pos) (fun r Q => to r fun d => (∃ fs, d = insD K' C fs ∧ fs.lookup m = none) ∧ p [d] Q) := by
  subst hk
  exact ped_methI0 c room hG ho tree
theorem ped_propIK {f : Str} (K' : PySem.W.Frag) {q : DSp} (c : CalldP X.prog X.w K' X.mg X.base k C f q) (room : Room (k + 1) X.A) (hG : X.A.guards = some []) (ho : PEd X w o to) (hk : X.K = K' := by rfl) (ab : attributeBase o f X.env (eval o X.env) = eval o X.env := by rfl) :
    PEd X w (.Attribute o f pos) (fun r Q => to r fun d => (∃ fs, d = insD K' C fs) ∧ q [d] Q) := by
  subst hk
  exact ped_propI c room hG ho ab
theorem ped_makeIK {c : Str} {q : Pos} (K' : PySem.W.Frag) {p : List Da → (List (Str × Da) → Prop) → Prop} (ci : CalldI X.prog X.w K' X.mg X.base k c C ps p) (room : Room (k + 1) X.A) (hG : X.A.guards = some []) (args : PAd X w (e :: es) t) (hk : X.K = K' := by rfl) (gl : Gl X c := by rfl) (nd : (c == ("__debug__" : Str)) = false := by decide)
    (st : starEach (e :: es) X.env = (false, eval e X.env) :: starEach es X.env := by rfl) (bk : (backTo pos (starEach es X.env)).any (·.1) = false := by rfl) :
    PEd X w (.Call (.Name c q) (e :: es) [] pos) (fun r Q => t r fun ds => p ds fun fs => noLf fs = true ∧ Q (insD K' C fs)) := by
  subst hk
  exact ped_makeI ci room hG args gl nd st bk
end
end Pd
/-! An own class's == and !=, by its __eq__; isinstance of an own class; o[i] by its __getitem__. -/
namespace Pd
open PySem PySem.Spec PySem.Calls PyProof.Rows L2
/-! ### != by an own __eq__ -/
section
variable {prog : Program} {w : World} {A : Around} {E : Value → Shared → Prop} {s : Shared} {K : PySem.W.Frag} {x C f L : Addr} {b tb : Value} {h₀ : Heap} {m : Str → Option Value} {ox : Obj} {od : Option Obj}
theorem ne_entry {Q : PySem.Fin → Shared → Prop} (X : K.In s.heap) (I : PySem.W.InstAt s.heap x ox C od) (hu : A.units < cLine) (he : PySem.W.findIn K (.ref C) "__eq__" = some (some (.ref f))) (hf : PySem.W.isFn K (.ref f) = true)
    (h : wpAny (model prog w) A (call (.ref f) [.ref x, b]) (fun v s' => ∃ c, v = .bool c ∧ Q (.done (.ret (.bool (!c)))) s') E s) :
    wpAny (model prog w) A (Builtin.«object.__ne__» ⟨[.ref x, b], []⟩) Q E s := by
  unfold Builtin.«object.__ne__»
  repeat (first
    | with_reducible refine wpAny_cRoomFor hu ?_
    | (refine wpAny_bind (m := callSpecialIfBound? (.ref x) (Str.ofString "__eq__") [b]) (PySem.W.ifBound_K X I he hf (wpAny_mono h (fun v s' hv => by
          obtain ⟨c, rfl, hq⟩ := hv
          repeat (first | exact hq | exact wpAny_pure hq | exact wpAny_truthy_bool hq | (refine wpAny_bind (m := truthy (.bool _)) (wpAny_truthy_bool ?_)) | wp_step)) fun _ _ e => e)))
    | wp_step)
theorem ne_bound {Q : Option Value → Shared → Prop} (X : K.In s.heap) (I : PySem.W.InstAt s.heap x ox C od) (hs : PySem.W.findIn K (.ref C) "__ne__" = some (some (.builtin "object.__ne__")))
    (h : wpAny (model prog w) A (call (.builtin "object.__ne__") [.ref x, b]) (fun v => Q (some v)) E s) : wpAny (model prog w) A (callSpecialIfBound? (.ref x) "__ne__" [b]) Q E s := by
  simp only [callSpecialIfBound?, bindSpecialIfBound?]
  refine wpAny_holding (wpAny_bind (wpAny_bind (wpAny_bind (I.type.here ((PySem.W.looks_findIn X hs).here ?_)))))
  refine wpAny_bind (wpAny_askSetting (wpAny_ite ?_))
  have fin : wpAny (model prog w) A (call (.builtin "object.__ne__") ([.ref x] ++ [b]) >>= fun v => pure (some v)) Q E s := wpAny_bind (wpAny_mono h (fun v s' h' => wpAny_pure h') fun _ _ h' => h')
  split
  · exact wpAny_bind (wpAny_of_eq (PySem.F.cmp_object.ne.bind _) (wpAny_pure (by exact fin)))
  · exact wpAny_tryCatch (wpAny_bind (wpAny_of_eq (PySem.F.cmp_object.ne.bind _) (wpAny_pure (by exact fin))))
theorem ne_own {Q : Value → Shared → Prop} (hu : A.units + 1 < cLine) (X : K.In s.heap) (I : PySem.W.InstAt s.heap x ox C od) (hb : PySem.W.Looks (model prog w) s.heap (typeOf b) tb) (hn : PySem.W.notFirst K C tb = true)
    (hs : PySem.W.findIn K (.ref C) "__ne__" = some (some (.builtin "object.__ne__"))) (he : PySem.W.findIn K (.ref C) "__eq__" = some (some (.ref f))) (hf : PySem.W.isFn K (.ref f) = true) (hm : PySem.W.mroIn K C (.type "object") = some true)
    (h : wpAny (model prog w) A.in1 (call (.ref f) [.ref x, b]) (fun v s' => ∃ c, v = .bool c ∧ Q (.bool (!c)) s') E s) : wpAny (model prog w) A (richCompare .NotEq (.ref x) b) Q E s := by
  have one : wpAny (model prog w) A (tryCompare (.ref x) "__ne__" b) (fun r s' => ∃ v, r = some v ∧ Q v s') E s := by
    unfold tryCompare
    refine wpAny_bind (ne_bound X I hs (wpAny_call (codeAny_call_builtin PySem.F.cmp_object.ne.plain PySem.F.cmpEntry_ne (PySem.W.check_slot PySem.F.cmpKind_ne PySem.F.cmpSplit_ne (I.type.andThen (PySem.W.looks_mroIn X hm)) (PySem.F.cmpArgs_ne _ _)
      (ne_entry X I hu he hf (wpAny_mono h (fun v s' hv => ?_) fun _ _ e => e))))))
    obtain ⟨c, rfl, hq⟩ := hv
    exact ⟨c, rfl, wpAny_pure ⟨_, rfl, hq⟩⟩
  unfold richCompare
  simp only [oneThing_ref]
  refine wpAny_holding (wpAny_bind (wpAny_cRoomFor (Nat.lt_of_succ_lt hu) ?_))
  rw [cmpInfo_NotEq]
  refine wpAny_bind (I.type.here (wpAny_bind (hb.here ?_)))
  split
  · rename_i q
    have e : PySem.W.subIn K tb (.ref C) = some false := by
      rcases Bool.or_eq_true_iff.mp hn with e | e
      · rw [beq_iff_eq.mp e] at q; simp at q
      · exact beq_iff_eq.mp e
    refine wpAny_bind ((PySem.W.looks_subIn X e).here ?_)
    simp only [Bool.false_eq_true, if_false]
    refine wpAny_bind (wpAny_mono one (fun r s' z => ?_) fun _ _ e => e)
    obtain ⟨v, rfl, hq⟩ := z
    exact wpAny_pure hq
  · refine wpAny_bind (wpAny_pure ?_)
    simp only [Bool.false_eq_true, if_false]
    refine wpAny_bind (wpAny_mono one (fun r s' z => ?_) fun _ _ e => e)
    obtain ⟨v, rfl, hq⟩ := z
    exact wpAny_pure hq
end
end Pd
/-! == and != of an own class, isinstance of it, o[i]: read as data. -/
namespace Pd
open PySem PySem.Spec PySem.Calls PyProof.Rows L2
/-- what == of an own class wants of the text -/
structure OwnEqF (K : PySem.W.Frag) (C : Addr) : Prop where
  ne : PySem.W.findIn K (.ref C) "__ne__" = some (some (.builtin "object.__ne__"))
  mo : PySem.W.mroIn K C (.type "object") = some true
  ca : PySem.W.findIn K (.ref C) "__class__" = some (some (.builtin "object.__class__"))
  cg : PySem.W.specialIn K (.builtin "object.__class__") "__get__" = some (some (.builtin "getset_descriptor.__get__"))
  ct : PySem.W.takesIn K (.builtin "object.__class__") = some true
  ci : (PySem.W.clsIn K C).isSome = true
  ty : PySem.W.typeIn K (.ref C) = some (.type "type")
theorem sub_plain {K : PySem.W.Frag} {C : Addr} {d : Da} {n : String} (h : tyD d = some n) : PySem.W.subIn K (.type n) (.ref C) = some false := by
  have go : ∀ (n : String) (l : List Value), fastBuiltinMro n = some l → (∀ a : Addr, l.contains (.ref a) = false) → PySem.W.subIn K (.type n) (.ref C) = some false := by
    intro n l e k
    show (fastBuiltinMro n).map (·.contains (.ref C)) = some false
    rw [e]
    show some (l.contains (.ref C)) = some false
    rw [k]
  have e1 : fastBuiltinMro "NoneType" = some [.type "NoneType", .type "object"] := by decide +kernel
  have e2 : fastBuiltinMro "bool" = some [.type "bool", .type "int", .type "object"] := by decide +kernel
  have e3 : fastBuiltinMro "int" = some [.type "int", .type "object"] := by decide +kernel
  have e4 : fastBuiltinMro "str" = some [.type "str", .type "object"] := by decide +kernel
  have e5 : fastBuiltinMro "list" = some [.type "list", .type "object"] := by decide +kernel
  have e6 : fastBuiltinMro "tuple" = some [.type "tuple", .type "object"] := by decide +kernel
  have e7 : fastBuiltinMro "dict" = some [.type "dict", .type "object"] := by decide +kernel
  cases d with
  | non => cases h; exact go _ _ e1 fun a => by first | rfl | simp
  | bl b => cases h; exact go _ _ e2 fun a => by first | rfl | simp
  | int i => cases h; exact go _ _ e3 fun a => by first | rfl | simp
  | str x => cases h; exact go _ _ e4 fun a => by first | rfl | simp
  | lst ds => cases h; exact go _ _ e5 fun a => by first | rfl | simp
  | tup ds => cases h; exact go _ _ e6 fun a => by first | rfl | simp
  | tpw ds => cases h; exact go _ _ e6 fun a => by first | rfl | simp
  | dct ds => cases h; exact go _ _ e7 fun a => by first | rfl | simp
  | bag => cases h
  | raw v => cases h
  | fix v => cases h
theorem kit_own {K : PySem.W.Frag} {C : Addr} : PySem.W.kitOne K (.ref C) (.ref C) = some true := by
  unfold PySem.W.kitOne
  rw [if_pos (beq_self_eq_true _)]
theorem kit_plain {K : PySem.W.Frag} {C : Addr} {d : Da} {n : String} (o : OwnEqF K C) (h : tyD d = some n) : PySem.W.kitOne K (.type n) (.ref C) = some false := by
  unfold PySem.W.kitOne
  rw [if_neg (by rw [show (Value.type n == Value.ref C) = false from rfl]; exact Bool.false_ne_true)]
  show (if ((PySem.W.clsIn K C).isSome && PySem.W.typeIn K (.ref C) == some (.type "type")) = true then PySem.W.subIn K (.type n) (.ref C) else none) = some false
  rw [if_pos (by rw [o.ci, o.ty]; rfl)]
  exact sub_plain h
theorem not_plain {K : PySem.W.Frag} {C : Addr} {d : Da} {n : String} (h : tyD d = some n) : PySem.W.notFirst K C (.type n) = true := by
  unfold PySem.W.notFirst
  rw [sub_plain h]
  exact Bool.or_true _
theorem not_own {K : PySem.W.Frag} {C : Addr} : PySem.W.notFirst K C (.ref C) = true := by
  unfold PySem.W.notFirst
  rw [beq_self_eq_true]
  rfl
/-- an instance of the class, or plain data -/
def OrPlain (K : PySem.W.Frag) (C : Addr) (d : Da) : Prop := (∃ fs, d = insD K C fs) ∨ ∃ n, tyD d = some n
theorem orPlain_ty {K : PySem.W.Frag} {C : Addr} {g : Option Addr} {W : Addr → Bool} {H : Hp} {v : V} {d : Da} (cl : Cls K C) (o : OwnEqF K C) (h : Dv K g (hid W H) v d) (p : OrPlain K C d) : ∃ t, TyX K H v t ∧ PySem.W.notFirst K C t = true := by
  rcases p with ⟨fs, rfl⟩ | ⟨n, e⟩
  · obtain ⟨a, dx, us, rfl, at_a, _⟩ := insD_at h
    exact ⟨.ref C, .base (.ins (hid_some at_a).2 cl o.ca o.cg o.ct o.mo), not_own⟩
  · exact ⟨.type n, tyD_x h e, not_plain e⟩
section
variable {X : Cx} {w : Wd} {a b e : Expr} {pos : Pos} {te ta tb : TDE} {C : Addr} {k : Nat} {ps : List Str} {p : DSp}
/-! ### isinstance(x, own class) -/
def dIsO (K : PySem.W.Frag) (C : Addr) (te : TDE) : TDE := fun r Q => te r fun x => ((∃ fs, x = insD K C fs) ∧ Q (.bl true)) ∨ ((∃ n, tyD x = some n) ∧ Q (.bl false))
theorem ped_isO {x : Str} {q p2 : Pos} (K' : PySem.W.Frag) (cl : Cls K' C) (o : OwnEqF K' C) (hm : X.mg "isinstance" = none) (he : PEd X w e te) (hx : X.mg x = some (.ref C)) (hk : X.K = K' := by rfl) (hd : (x == ("__debug__" : Str)) = false := by decide) (hg : Gl X "isinstance" := by rfl) (hgx : Gl X x := by rfl)
    (st : starEach [e, .Name x p2] X.env = (false, eval e X.env) :: starEach [.Name x p2] X.env := by rfl) (st2 : starEach [.Name x p2] X.env = (false, eval (.Name x p2) X.env) :: starEach [] X.env := by rfl) (hpl : (backTo pos (starEach [.Name x p2] X.env)).any (·.1) = false := by rfl) :
    PEd X w (.Call (.Name "isinstance" q) [e, .Name x p2] [] pos) (dIsO K' C te) := by
  subst hk
  refine ⟨weE (pe_callB call_isi hg hm (by decide +kernel) (pa_cons he.pe (pa_cons (pe_glob (v := .ref C) hgx hx rfl hd) pa_nil st2) st) (by decide) (by decide) (by exact st) (by exact hpl)) ?_, fun r Q Q' q h => he.mo _ _ _ (fun d z => z.elim (fun z => .inl ⟨z.1, q _ z.2⟩) fun z => .inr ⟨z.1, q _ z.2⟩) h⟩
  rintro σ H Q ⟨W, own, r, S, z⟩
  refine go1 he S z fun d v H1 e1 k1 d1 z => ?_
  rcases z with ⟨⟨fs, rfl⟩, z⟩ | ⟨⟨n, ht⟩, z⟩
  · obtain ⟨a, dx, us, rfl, at_a, _⟩ := insD_at d1
    exact ⟨.ref a, .ref C, .ref C, .ref C, true, rfl, .own C, .base (.ins (hid_some at_a).2 cl o.ca o.cg o.ct o.mo), kit_own, z (.bl true) H1 e1 k1 (.bl true)⟩
  · exact ⟨v, .ref C, .type n, .ref C, false, rfl, .own C, tyD_x d1 ht, kit_plain o ht, z (.bl false) H1 e1 k1 (.bl false)⟩
/-! ### o == y, o != y -/
def rEqO (neg : Bool) (K : PySem.W.Frag) (C : Addr) (sp : Sp) : R2 := fun x y H Q => ∃ a dx us t, x = .ref a ∧ H a = some (.ins C dx us) ∧ TyX K H y t ∧ PySem.W.notFirst K C t = true ∧ sp [.ref a, y] H (fun v H' => ∃ b, v = .bl b ∧ Q (.bl (if neg then !b else b)) H') E0
theorem op_eqO (c : CalldS X.prog X.w X.K X.mg X.base k C "__eq__" ps p) (room : Room k X.A) (hG : X.A.guards = some []) : OpR X (compareOp .Eq) (rEqO false X.K C (liP X.K p)) := by
  obtain ⟨⟨f, fd, F, hs, hf, bd⟩, mp⟩ := c
  intro pins s σ H x y v u Q I rx ry h
  obtain ⟨a, dx, us, t, rfl, h1, ty, hn, hsp⟩ := h
  cases (show v = Value.ref a from rx)
  obtain ⟨mA, J, _⟩ := ins_get I.hok h1
  obtain ⟨od, J, _⟩ := J.look
  obtain ⟨m0, hF⟩ := I.fr
  obtain ⟨P, Z, z, _⟩ := kit_of I ry ty
  have hb := Z.ty (model X.prog X.w) s.heap I.kIn z
  show wpAny (model X.prog X.w) X.A (richCompare .Eq (.ref a) u) (EP X pins σ Q) X.xe s
  refine PySem.W.cmp_K (op := .Eq) (Nat.lt_of_le_of_lt (Nat.le_add_right _ 64) room.units) hF I.ok.mod.kin J hb hn hs hf (wpAny_mono (run_GA F room rfl hG bd I (show Vals [V.ref a, y] [Value.ref a, u] from .cons rfl (.cons ry .nil)) hsp) (fun r s' z => ?_) fun _ _ x => x)
  obtain ⟨v, H', I', rv, b, rfl, q⟩ := z
  cases (show r = Value.bool b from rv)
  exact ⟨.bl b, H', I', rfl, q⟩
theorem op_neO (o : OwnEqF X.K C) (c : CalldS X.prog X.w X.K X.mg X.base k C "__eq__" ps p) (room : Room (k + 1) X.A) (hG : X.A.guards = some []) : OpR X (compareOp .NotEq) (rEqO true X.K C (liP X.K p)) := by
  obtain ⟨⟨f, fd, F, hs, hf, bd⟩, mp⟩ := c
  intro pins s σ H x y v u Q I rx ry h
  obtain ⟨a, dx, us, t, rfl, h1, ty, hn, hsp⟩ := h
  cases (show v = Value.ref a from rx)
  obtain ⟨mA, J, _⟩ := ins_get I.hok h1
  obtain ⟨od, J, _⟩ := J.look
  obtain ⟨m0, hF⟩ := I.fr
  obtain ⟨P, Z, z, _⟩ := kit_of I ry ty
  have hb := Z.ty (model X.prog X.w) s.heap I.kIn z
  show wpAny (model X.prog X.w) X.A (richCompare .NotEq (.ref a) u) (EP X pins σ Q) X.xe s
  refine ne_own (hu_of room) I.kIn J hb hn o.ne hs hf o.mo (wpAny_mono (run_GA F room.in1 rfl hG bd I (show Vals [V.ref a, y] [Value.ref a, u] from .cons rfl (.cons ry .nil)) hsp) (fun r s' z => ?_) fun _ _ x => x)
  obtain ⟨v, H', I', rv, b, rfl, q⟩ := z
  cases (show r = Value.bool b from rv)
  exact ⟨b, rfl, .bl (!b), H', I', rfl, q⟩
def eqOD (neg : Bool) (K : PySem.W.Frag) (C : Addr) (p : DSp) : DD := fun x y Q => (∃ fs, x = insD K C fs) ∧ OrPlain K C y ∧ p [x, y] fun d => ∃ b, d = .bl b ∧ Q (.bl (if neg then !b else b))
theorem eqO_br {neg : Bool} (cl : Cls X.K C) (o : OwnEqF X.K C) (mp : MoP p) : Br2 X.K (rEqO neg X.K C (liP X.K p)) (eqOD neg X.K C p) := by
  rintro g W H v u x y Q k1 dx dy ⟨⟨fs, rfl⟩, hy, z⟩
  obtain ⟨t, ty, hn⟩ := orPlain_ty cl o dy hy
  obtain ⟨a, da, us, rfl, at_a, _⟩ := insD_at dx
  refine ⟨a, da, us, t, rfl, (hid_some at_a).2, ty, hn, g, W, _, k1, .cons dx (.cons dy .nil), mp _ _ _ (fun d ⟨b, ed, q⟩ v H' e k dv => ?_) z⟩
  subst ed
  cases dv
  exact ⟨b, rfl, q _ H' e k (.bl _)⟩
theorem eqOD_mo {neg : Bool} {K : PySem.W.Frag} (mp : MoP p) : Mo2 (eqOD neg K C p) := fun x y Q Q' q z => ⟨z.1, z.2.1, mp _ _ _ (fun d ⟨b, e, h⟩ => ⟨b, e, q _ h⟩) z.2.2⟩
theorem ped_eqO (K' : PySem.W.Frag) (c : CalldS X.prog X.w K' X.mg X.base k C "__eq__" ps p) (room : Room k X.A) (hG : X.A.guards = some []) (cl : Cls K' C) (o : OwnEqF K' C) (ha : PEd X w a ta) (hb : PEd X w b tb) (hk : X.K = K' := by rfl) : PEd X w (.Compare a [.Eq] [b] pos) (dOp (eqOD false K' C p) ta tb) := by
  subst hk
  exact ped_cmp (op_eqO c room hG) (nobehind _ (by decide) (by decide)) (eqOD_mo c.mp) (eqO_br cl o c.mp) ha hb
theorem ped_neO (K' : PySem.W.Frag) (c : CalldS X.prog X.w K' X.mg X.base k C "__eq__" ps p) (room : Room (k + 1) X.A) (hG : X.A.guards = some []) (cl : Cls K' C) (o : OwnEqF K' C) (ha : PEd X w a ta) (hb : PEd X w b tb) (hk : X.K = K' := by rfl) : PEd X w (.Compare a [.NotEq] [b] pos) (dOp (eqOD true K' C p) ta tb) := by
  subst hk
  exact ped_cmp (op_neO o c room hG) (nobehind _ (by decide) (by decide)) (eqOD_mo c.mp) (eqO_br cl o c.mp) ha hb
/-! ### o[i] -/
def rGetO (K : PySem.W.Frag) (C : Addr) (sp : Sp) : R2 := fun x y H Q => ∃ a dx us, x = .ref a ∧ H a = some (.ins C dx us) ∧ sp [.ref a, y] H Q E0
def getOD (K : PySem.W.Frag) (C : Addr) (p : DSp) : DD := fun x y Q => (∃ fs, x = insD K C fs) ∧ p [x, y] Q
theorem ped_getO (K' : PySem.W.Frag) (c : CalldS X.prog X.w K' X.mg X.base k C "__getitem__" ps p) (fi : ∀ f, PySem.W.findIn K' (.ref C) "__getitem__" = some (some (.ref f)) → PySem.W.fnIn K' f = true) (room : Room (k + 1) X.A) (hG : X.A.guards = some [])
    (ha : PEd X w a ta) (hb : PEd X w b tb) (hk : X.K = K' := by rfl) (hs : ∀ v u, subscripted b true v u = runValue (.builtin "lifetime.subscript" ⟨[v, u], []⟩) := by intro _ _; with_unfolding_all rfl) : PEd X w (.Subscript a b pos) (dOp (getOD K' C p) ta tb) := by
  subst hk
  obtain ⟨⟨f, fd, F, hs', hf, bd⟩, mp⟩ := c
  have pe : ∀ {ta tb : TE}, PE X a ta → PE X b tb → PE X (.Subscript a b pos) (tOp (rGetO X.K C (liP X.K p)) ta tb) := by
    intro ta tb pa pb
    refine ⟨fun pins s σ H Q I h => ?_⟩
    refine Subscript_ (binT pa pb I h fun v u s2 x y H2 I2 rx ry q => ?_)
    obtain ⟨a, dx, us, rfl, h1, hsp⟩ := q
    cases (show v = Value.ref a from rx)
    obtain ⟨mA, J, _⟩ := ins_get I2.hok h1
    obtain ⟨od, J, _⟩ := J.look
    obtain ⟨m0, hF⟩ := I2.fr
    exact PySem.W.sub_K hF I2.ok.mod.kin J hs' (fi f hs') hf (run_GA F room.in1 rfl hG bd I2 (show Vals [V.ref a, y] [Value.ref a, u] from .cons rfl (.cons ry .nil)) hsp) (hs _ _)
  have mo : Mo2 (getOD X.K C p) := fun x y Q Q' q z => ⟨z.1, mp _ _ _ q z.2⟩
  refine ⟨weE (pe ha.pe hb.pe) ?_, dOp_mo mo ha hb⟩
  rintro σ H Q ⟨W, own, r, S, h⟩
  refine go2 ha hb S h fun x y v u H1 e1 k1 d1 d2 z => ?_
  obtain ⟨⟨fs, rfl⟩, z⟩ := z
  obtain ⟨a, dx, us, rfl, at_a, _⟩ := insD_at d1
  exact ⟨a, dx, us, rfl, (hid_some at_a).2, w.g, W, _, k1, .cons d1 (.cons d2 .nil), mp _ _ _ (fun x q v H' e k dv => q v H' (e1.trans e) k dv) z⟩
end
end Pd
/-! More new things: data without lists, lists of one's own, [new, new][i]; x = a new thing. -/
namespace Pd
open PySem PySem.Spec PyProof.Rows L2
theorem newM_sees {H Hh : Hp} : Sees Hh (newM H Hh) := fun a o h n1 n2 => by
  by_cases q : H a = none
  · rw [newM_new q]; exact h
  · rw [newM_old q, h]
    cases o with
    | lst xs => exact absurd rfl (n1 xs)
    | dK kvs => exact absurd rfl (n2 kvs)
    | _ => rfl
section
variable {X : Cx} {w : Wd} {a b e : Expr} {pos : Pos} {ta tb te : TDE}
theorem PEd.pvd {t : TDE} (h : PEd X w e t) : PVd X w e (fun r Q => t r fun d => noL d = true ∧ Q d) := by
  refine ⟨weE h.pe ?_, fun r Q Q' q z => h.mo _ _ _ (fun d z => ⟨z.1, q _ z.2⟩) z⟩
  rintro σ H Q ⟨W, own, r, S, z⟩
  exact ⟨W, own, r, S, h.mo _ _ _ (fun d z v H' e1 k1 dv => z.2 v H' e1 k1 (Dv.sees newM_sees _ _ z.1 dv)) z⟩
theorem PFd.pvd {t : TDA} (h : PFd X w e t) : PVd X w e (fun r Q => t r fun ds => noLs ds = true ∧ Q (.lst ds)) := by
  refine ⟨weE h.pe ?_, fun r Q Q' q z => h.mo _ _ _ (fun ds z => ⟨z.1, q _ z.2⟩) z⟩
  rintro σ H Q ⟨W, own, r, S, z⟩
  refine ⟨W, own, r, S, h.mo _ _ _ (fun ds q p xs H1 e1 k1 np dv => ?_) z⟩
  obtain ⟨n1, n2, n3, n4⟩ := k1.new (o := .lst xs) np
  refine q.2 _ _ (e1.trans n1) n2 (.lst (by rw [newM_new (e1.none k1 np)]; exact n4) (DvAll.sees ?_ _ _ q.1 dv))
  exact Sees.trans (Sees.sm n3) newM_sees
/-- [new, new][i] -/
theorem pvd_ixN {t : TDA} (hs : PlainIx b) (ha : PNd X w a t) (hb : PEd X w b tb) : PVd X w (.Subscript a b pos) (fun r Q => t r fun ds => tb r fun y => ∃ i d, y = .int i ∧ L2.atI ds i = some d ∧ Q d) := by
  refine ⟨weE (pe_ix ix_list ha.pe hb.pe hs) ?_, fun r Q Q' q z => ha.mo _ _ _ (fun ds => hb.mo _ _ _ fun y ⟨i, d, e1, e2, h⟩ => ⟨i, d, e1, e2, q _ h⟩) z⟩
  rintro σ H Q ⟨W, own, r, S, z⟩
  refine ⟨W, own, r, S, ha.mo _ _ _ (fun ds z p xs H1 e1 k1 np dv => ?_) z⟩
  obtain ⟨n1, n2, n3, n4⟩ := k1.new (o := .lst xs) np
  have e2 := e1.trans n1
  refine ⟨W, own, r, S.ext e2 n2, hb.mo _ _ _ (fun y z v H2 e3 k2 dy => ?_) z⟩
  obtain ⟨i, d, rfl, hat, q⟩ := z
  cases dy
  obtain ⟨u, hu, du⟩ := dv.atI hat
  have gp : w.g ≠ some p := fun z => by
    obtain ⟨o, y⟩ := k1.al p (k1.gW p z)
    rw [np] at y; cases y
  exact ⟨p, xs, i, u, rfl, rfl, SqL.of (e3 p _ gp upd_same), hu, q u H2 (e2.trans e3) k2 (Dv.mono (newM_up (fun a ha => ha) fun b o z => e3.hid n2.gW b o (n3 b o z)) _ _ du)⟩
end
/-! ### x = a new thing -/
section
variable {K : PySem.W.Frag} {w : Wd} {W : Addr → Bool} {own : Ow} {r : En} {σ : L2.St} {H H1 : Hp}
theorem Stt.newOwnAt (S : Stt K w W own r σ H) (i : Nat) {p : Addr} {xs : List V} {ds : List Da} (e1 : Ext w.g H H1) (k1 : OkW K w.g W H1) (nH : H p = none) (at_p : hid W H1 p = some (.lst xs)) (nl : noLs ds = true) (dv : DvAll K w.g (hid W H1) xs ds) :
    ∃ own', Stt K w (Pd.hideD W p) own' (r.set i (.own ds)) (σ.set i (some (.ref p))) H1 ∧ Grow w.g W H (Pd.hideD W p) H1 := by
  obtain ⟨wp, hp⟩ := hid_some at_p
  let H0 : Hp := fun a => if a = p then none else H1 a
  have h0p : H0 p = none := if_pos rfl
  have h0 : ∀ a, a ≠ p → H0 a = H1 a := fun a n => if_neg n
  have gp : ∀ a, w.g = some a → a ≠ p := fun a z y => by rw [← y, k1.gW a z] at wp; cases wp
  have e0 : Ext w.g H H0 := ⟨fun b o n z => by rw [h0 b fun y => by rw [y, nH] at z; cases z]; exact e1 b o n z, fun b ys z y => by rw [h0 b (gp b z)]; exact e1.last b ys z y⟩
  have k0 : OkW K w.g W H0 := ⟨fun b hb => by
    obtain ⟨x, y, z, c, cs, q1, q2⟩ := S.ok.bag b hb
    obtain ⟨x', y', z', c', cs', q3, q4⟩ := k1.bag b hb
    obtain ⟨ys, q5, q6⟩ := e1.last b _ hb q1
    rw [q3] at q5
    cases q5
    have ec : c' = c := V.ref.inj (Option.some.inj q6)
    subst ec
    have nc : c' ≠ p := fun z => by
      rw [z] at q2
      have := (hid_some q2).2
      rw [nH] at this
      cases this
    obtain ⟨q7, q8⟩ := hid_some q4
    exact ⟨x', y', z', c', cs', by rw [h0 b (gp b hb)]; exact q3, by rw [hid_no q7, h0 c' nc]; exact q8⟩, k1.gW, fun b hb => by
    obtain ⟨o, q⟩ := S.ok.al b hb
    obtain ⟨o', q'⟩ := k1.al b hb
    exact ⟨o', by rw [h0 b fun y => by rw [y, nH] at q; cases q]; exact q'⟩⟩
  have eH : upd H0 p (.lst xs) = H1 := by
    funext a
    by_cases z : a = p
    · rw [z, upd_same, hp]
    · rw [upd_ne z, h0 a z]
  have se : Sees (hid W H1) (hid W H0) := fun a o h n1 n2 => by
    obtain ⟨q1, q2⟩ := hid_some h
    rw [hid_no q1, h0 a fun z => by rw [z, hp] at q2; exact n1 xs (Option.some.inj q2).symm]
    exact q2
  obtain ⟨⟨own', S'⟩, gr⟩ := (S.ext e0 k0).newOwn i h0p (DvAll.sees se _ _ nl dv)
  rw [eH] at S' gr
  exact ⟨own', S', (Grow.of k0 e0).trans gr⟩
end
section
variable {X : Cx} {w : Wd} {e : Expr}
def dSetVO (t : TDE) (i : Nat) : TDS := fun E r => t r fun d => (∃ ds, d = .lst ds ∧ noLs ds = true ∧ E.nx (r.set i (.own ds))) ∨ (noL d = true ∧ E.nx (r.set i (.dat d)))
theorem psd_setVO {i : Nat} {x : Str} {pos pos' : Pos} {t : TDE} (he : PVd X w e t) (hN : X.N.Nodup) (hi : X.N[i]? = some x := by rfl) (hx : Loc X.env.scope x := by first | exact .inl rfl | exact .inr rfl) (hs : swapsWith e (some (.Name x pos')) pos.line X.env = pure false := by rfl)
    (hf : X.fn x = true ∨ X.env.scope.names.lookup x = some .local := by first | exact .inl rfl | exact .inr rfl) : PSd X w (.Assign [.Name x pos'] e pos) (dSetVO t i) := by
  refine ⟨weS (ps_set hN hi hx he.pe hs hf) ?_, fun E E' r l h => he.mo _ _ _ (fun d z => z.elim (fun ⟨ds, a, b, c⟩ => .inl ⟨ds, a, b, l.nx _ c⟩) fun z => .inr ⟨z.1, l.nx _ z.2⟩) h⟩
  rintro D σ H ⟨W, own, r, S, h⟩
  refine ⟨W, own, r, S, he.mo _ _ _ (fun d z v H1 e1 k1 dv => ?_) h⟩
  rcases z with ⟨ds, rfl, nl, z⟩ | ⟨nl, z⟩
  · cases dv with
    | @lst p xs _ a1 a2 =>
      have nH : H p = none := by
        cases q : H p with
        | none => rfl
        | some o =>
          rw [newM_old (by rw [q]; intro z; cases z)] at a1
          have := (nom_some a1).2
          cases this
      rw [newM_new nH] at a1
      obtain ⟨own', S', gr⟩ := S.newOwnAt i e1 k1 nH a1 nl (DvAll.mono newM_le _ _ a2)
      exact z _ own' _ _ gr S'
  · obtain ⟨own', S'⟩ := (S.ext e1 k1).set (i := i) (Dv.mono newM_le _ _ dv)
    exact z W own' _ H1 (.of k1 e1) S'
end
end Pd
/-! x = x + [new, new], x a new list of new things. -/
namespace Pd
open PySem PySem.Spec PyProof.Rows L2
theorem Stt.addReg {K : PySem.W.Frag} {w : Wd} {W : Addr → Bool} {own : Ow} {r : En} {σ : L2.St} {H H1 : Hp} (S : Stt K w W own r σ H) {i : Nat} {p : Addr} {xs0 xs : List V} {ds0 ds : List Da} {a0 : Addr} (hri : r[i]? = some (.reg ds0)) (oa : own i a0) (ha0 : H a0 = some (.lst xs0)) (dv0 : DvAll K w.g (cutAt a0 (vis W own H i)) xs0 ds0) (e1 : Ext w.g H H1) (k1 : OkW K w.g W H1) (np : H1 p = none) (dv : DvAll K w.g (newM H (hid W H1)) xs ds) :
    ∃ W' own', Stt K w W' own' (r.set i (.reg (ds0 ++ ds))) (σ.set i (some (.ref p))) (upd H1 p (.lst (xs0 ++ xs))) ∧ Grow w.g W H W' (upd H1 p (.lst (xs0 ++ xs))) := by
  have nH : H p = none := e1.none k1 np
  have nW : ∀ a, H a = none → W a = false := fun a h => by
    cases y : W a with
    | false => rfl
    | true => obtain ⟨o, q⟩ := S.ok.al a y; rw [h] at q; cases q
  have ge : ∀ a, H a = none → w.g ≠ some a := fun a h z => by
    obtain ⟨o, q⟩ := S.ok.al a (S.ok.gW a z)
    rw [h] at q; cases q
  have up : ∀ a o, H1 a = some o → upd H1 p (.lst (xs0 ++ xs)) a = some o := fun a o h => by rw [upd_ne (ne_of_none h np)]; exact h
  have oldH : ∀ a o, w.g ≠ some a → H a = some o → upd H1 p (.lst (xs0 ++ xs)) a = some o := fun a o n h => up a o (e1 a o n h)
  -- what is one's own from now on
  let nw : Addr → Prop := fun a => H a = none ∧ Mut (upd H1 p (.lst (xs0 ++ xs))) a
  have hp : nw p := ⟨nH, .inl ⟨xs0 ++ xs, upd_same⟩⟩
  open Classical in
  let W' : Addr → Bool := fun a => W a || decide (nw a)
  have W'o : ∀ a, W a = true → W' a = true := fun a h => by show (W a || _) = true; rw [h]; rfl
  have W'n : ∀ a, nw a → W' a = true := fun a h => by
    show (W a || decide (nw a)) = true
    rw [Bool.or_eq_true]
    exact .inr (decide_eq_true h)
  have W'i : ∀ a, W' a = true → W a = true ∨ nw a := fun a h => by
    have h' : (W a || decide (nw a)) = true := h
    rw [Bool.or_eq_true] at h'
    exact h'.imp id fun z => of_decide_eq_true z
  have W'f : ∀ a, W a = false → ¬ nw a → W' a = false := fun a h n => by
    cases y : W' a with
    | false => rfl
    | true => exact (W'i a y).elim (fun z => by rw [h] at z; cases z) fun z => absurd z n
  have sm : Sm (hid W H) (hid W' (upd H1 p (.lst (xs0 ++ xs)))) := fun a o q => by
    obtain ⟨q1, q2⟩ := hid_some q
    rw [hid_no (W'f a q1 fun z => by rw [z.1] at q2; cases q2)]
    exact oldH a o (fun z => by rw [S.ok.gW a z] at q1; cases q1) q2
  refine ⟨W', fun j a => (j = i ∧ (nw a ∨ own i a)) ∨ (j ≠ i ∧ own j a), ⟨⟨fun b hb => ?_, fun b hb => W'o b (S.ok.gW b hb), fun b hb => ?_⟩, S.base.trans (e1.trans (Ext.of (sm_upd np))), fun b hb => W'o b (S.w0 b hb), S.g0, fun j a h => ?_, fun j k a q1 q2 => ?_, by rw [List.length_set, List.length_set]; exact S.len, fun j d h n => ?_⟩, ?_⟩
  · obtain ⟨x, y, z, c, cs, q1, q2⟩ := S.ok.bag b hb
    obtain ⟨x', y', z', c', cs', q3, q4⟩ := k1.bag b hb
    obtain ⟨ys, q5, q6⟩ := e1.last b _ hb q1
    rw [q3] at q5
    cases q5
    have ec : c' = c := V.ref.inj (Option.some.inj q6)
    subst ec
    have bg : upd H1 p (.lst (xs0 ++ xs)) b = some (.lst [.int x', .int y', .int z', .ref c']) := up b _ q3
    exact ⟨x', y', z', c', cs, bg, sm _ _ q2⟩
  · rcases W'i b hb with z | z
    · obtain ⟨o, q⟩ := k1.al b z
      exact ⟨o, up b o q⟩
    · rcases z.2 with ⟨u, z⟩ | ⟨u, z⟩
      · exact ⟨_, z⟩
      · exact ⟨_, z⟩
  · have old : ∀ j, own j a → W' a = true ∧ w.H0 a = none ∧ w.g ≠ some a := fun j h => by
      obtain ⟨z1, z2, z3⟩ := S.oW j a h
      exact ⟨W'o a z1, z2, z3⟩
    rcases h with ⟨_, h | h⟩ | ⟨_, h⟩
    · refine ⟨W'n a h, ?_, ge a h.1⟩
      cases q : w.H0 a with
      | none => rfl
      | some o =>
        have := S.base a o (ge a h.1) q
        rw [h.1] at this; cases this
    · exact old i h
    · exact old j h
  · have both : ∀ j k, own j a → own k a → j = k ∧ Mut (upd H1 p (.lst (xs0 ++ xs))) a := fun j k q1 q2 => ⟨(S.inj j k a q1 q2).1, (S.inj j k a q1 q2).2.up fun o z => oldH a o (S.oW j a q1).2.2 z⟩
    have no : ∀ k, nw a → ¬ own k a := fun k q1 q2 => by
      obtain ⟨o, z⟩ := S.ok.al a (S.oW k a q2).1
      rw [q1.1] at z; cases z
    rcases q1 with ⟨rfl, q1 | q1⟩ | ⟨n1, q1⟩
    · rcases q2 with ⟨rfl, _⟩ | ⟨n2, q2⟩
      · exact ⟨rfl, q1.2⟩
      · exact absurd q2 (no k q1)
    · rcases q2 with ⟨rfl, q2 | q2⟩ | ⟨n2, q2⟩
      · exact absurd q1 (no _ q2)
      · exact both _ _ q1 q2
      · exact both _ _ q1 q2
    · rcases q2 with ⟨rfl, q2 | q2⟩ | ⟨n2, q2⟩
      · exact absurd q1 (no _ q2)
      · exact both _ _ q1 q2
      · exact both _ _ q1 q2
  · by_cases hj : j = i
    · subst hj
      have hl : j < r.length := by
        have := (List.getElem?_eq_some_iff.mp h).1
        rwa [List.length_set] at this
      rw [List.getElem?_set_self hl] at h
      cases h
      refine ⟨.ref p, by rw [List.getElem?_set_self (by rw [← S.len]; exact hl)], p, xs0 ++ xs, .inl ⟨rfl, .inl hp⟩, rfl, upd_same, (DvAll.mono (fun a o z => ?_) _ _ dv0).app (DvAll.mono (fun a o z => ?_) _ _ dv)⟩
      · have na0 : a ≠ a0 := fun y => by rw [y, cutAt_same] at z; cases z
        rw [cutAt_ne na0] at z
        by_cases oj : own j a
        · rw [vis_own oj] at z
          rw [cutAt_ne (fun y => by rw [y, nH] at z; cases z), vis_own (.inl ⟨rfl, .inr oj⟩)]
          exact oldH a o (S.oW j a oj).2.2 z
        · rw [vis_not oj] at z
          obtain ⟨z1, z2⟩ := nom_some z
          obtain ⟨z3, z4⟩ := hid_some z1
          have nn : ¬ nw a := fun y => by rw [y.1] at z4; cases z4
          have m := sm a o z1
          rw [cutAt_ne (fun y => by rw [y, nH] at z4; cases z4), vis_not (fun q => q.elim (fun q => q.2.elim nn oj) fun q => absurd rfl q.1), m]
          exact z2
      have z0 := newM_le a o z
      obtain ⟨z1, z2⟩ := hid_some z0
      have ne : a ≠ p := ne_of_none z2 np
      rw [cutAt_ne ne]
      by_cases y : nw a
      · rw [vis_own (.inl ⟨rfl, .inl y⟩)]
        exact up a o z2
      · have no : nom (some o) = some o := by
          by_cases q : H a = none
          · have nm : ¬ Mut (upd H1 p (.lst (xs0 ++ xs))) a := fun m => y ⟨q, m⟩
            cases o with
            | lst u => exact absurd (.inl ⟨u, up a _ z2⟩) nm
            | dK u => exact absurd (.inr ⟨u, up a _ z2⟩) nm
            | _ => rfl
          · rw [newM_old q] at z
            exact (nom_some z).2
        rw [vis_not (fun q => q.elim (fun q => q.2.elim y fun q => by rw [(S.oW j a q).1] at z1; cases z1) fun q => absurd rfl q.1), hid_no (W'f a z1 y), up a o z2]
        exact no
    · rw [List.getElem?_set_ne (Ne.symm hj)] at h
      obtain ⟨v, q1, q2⟩ := S.sl j d h n
      refine ⟨v, by rw [List.getElem?_set_ne (Ne.symm hj)]; exact q1, ?_⟩
      cases d with
      | no => exact absurd rfl n
      | dat d => exact Dv.mono sm _ _ q2
      | own fs =>
        obtain ⟨b, zs, p1, p2, p3, p4⟩ := q2
        exact ⟨b, zs, ⟨.inr ⟨hj, p1.1⟩, fun c hc => hc.elim (fun z => absurd z.1 hj) fun z => p1.2 c z.2⟩, p2, oldH b _ (S.oW j b p1.1).2.2 p3, DvAll.mono sm _ _ p4⟩
      | reg ds' =>
        obtain ⟨b, zs, p1, p2, p3, p4⟩ := q2
        exact ⟨b, zs, .inr ⟨hj, p1⟩, p2, oldH b _ (S.oW j b p1).2.2 p3, DvAll.mono (cutAt_sm (vis_up (fun a o q z => ⟨.inr ⟨hj, q⟩, oldH a o (S.oW j a q).2.2 z⟩) sm)) _ _ p4⟩
  · refine ⟨fun b o n wb hb => oldH b o n hb, fun b hb => ?_, fun b hb => (W'i b hb).imp id fun z => z.1⟩
    cases q : H b with
    | none => exact absurd q hb
    | some o =>
      by_cases z : w.g = some b
      · obtain ⟨u, y⟩ := k1.al b (k1.gW b z)
        rw [up b u y]
        intro n; cases n
      · rw [oldH b o z q]
        intro n; cases n
section
variable {X : Cx} {w : Wd} {es : List Expr}
def dAddR (t : TDA) (i : Nat) : TDS := fun E r => ∃ ds, r[i]? = some (.reg ds) ∧ t r fun es => ds.length + es.length ≤ sizeLine ∧ es.length ≤ sizeLine ∧ E.nx (r.set i (.reg (ds ++ es)))
theorem psd_addR {i : Nat} {x : Str} {p p2 p3 pos pos' : Pos} {t : TDA} (he : PNA X w es t) (hN : X.N.Nodup) (hi : X.N[i]? = some x := by rfl) (hx : Loc X.env.scope x := by first | exact .inl rfl | exact .inr rfl) (hv : Vis X.env.scope x := by first | exact Or.inl rfl | exact Or.inr (Or.inl rfl) | exact Or.inr (Or.inr rfl)) (hd : (x == ("__debug__" : Str)) = false := by decide) (hcd : (x == ("__classdict__" : Str)) = false := by decide)
    (hs : swapsWith (.BinOp (.Name x p) .Add (.List es p2) p3) (some (.Name x pos')) pos.line X.env = pure false := by rfl) (hf : X.fn x = true ∨ X.env.scope.names.lookup x = some .local := by first | exact .inl rfl | exact .inr rfl) :
    PSd X w (.Assign [.Name x pos'] (.BinOp (.Name x p) .Add (.List es p2) p3) pos) (dAddR t i) := by
  refine ⟨weS (ps_set hN hi hx (pe_op op_cat (pv i hi hv hd hcd) (pe_lst he.pa)) hs hf) ?_, fun E E' r l ⟨ds, a, h⟩ => ⟨ds, a, he.mo _ _ _ (fun d z => ⟨z.1, z.2.1, l.nx _ z.2.2⟩) h⟩⟩
  rintro D σ H ⟨W, own, r, S, ds, hr, h⟩
  obtain ⟨v, hv, a, xs, o1, rfl, o3, o4⟩ := S.sl i _ hr (fun z => by cases z)
  refine ⟨.ref a, hv, W, own, r, S, he.mo _ _ _ (fun es z ys H1 e1 k1 dv => ?_) h⟩
  refine ⟨by rw [dv.len]; exact z.2.1, fun q nq => ?_⟩
  obtain ⟨n1, n2, n3, n4⟩ := k1.new (o := .lst ys) nq
  have ga : w.g ≠ some a := (S.oW i a o1).2.2
  have qa : upd H1 q (.lst ys) a = some (.lst xs) := by rw [upd_ne (ne_of_none (e1 a _ ga o3) nq)]; exact e1 a _ ga o3
  refine ⟨a, q, xs, ys, rfl, rfl, qa, upd_same, by rw [o4.len, dv.len]; exact z.1, fun p np => ?_⟩
  obtain ⟨W', own', S', gr⟩ := S.addReg hr o1 o3 o4 (e1.trans n1) n2 np (DvAll.mono (newM_up (fun a ha => ha) n3) _ _ dv)
  exact z.2.2 W' own' _ _ gr S'
end
end Pd
/-! list(o), o an instance whose own __iter__ gives iter(a tuple of its own). -/
namespace Pd
open PySem PySem.Spec PySem.Calls PyProof.Rows L2
section
variable {X : Cx} {k : Nat} {f C a q : Addr} {fd : FuncData} {ps : List Str} {sp : Sp} {pins : List (Addr × Obj)} {σ : L2.St} {H : Hp} {s : Shared} {A1 : Around}
/-- whatever becomes of an error: none comes -/
theorem run_GE {E : Value → Shared → Prop} {Q : VK} {us : List Value} {vs : List V} (F : FnG X.prog X.w X.K X.mg X.base CX0 k f fd ps sp) (room : Room k A1) (fr : A1.frames = X.A.frames) (hG : A1.guards = some [])
    (bd : Binds X.K fd ps []) (I : Inv X pins σ H s) (rel : Vals vs us) (pre : sp vs H Q E0) : wpAny (model X.prog X.w) A1 (call (.ref f) us) (EP X pins σ Q) E s := by
  have len2 : us.length = ps.length := rel.length.symm.trans (F.many _ _ _ _ pre)
  have e0 : Env0 X.prog X.w X.K X.mg X.base A1 X.stack s H := by
    have e := I.env0
    exact ⟨by rw [fr]; exact e.frames, e.mod, e.bs, e.bsz, e.funs, e.frf, e.hok, e.bare⟩
  have b2 := bd s us I.kIn (by rw [List.append_nil]; exact len2)
  rw [List.append_nil] at b2
  have all := F.goes A1 X.stack s H ⟨us, []⟩ us vs Q E0 room hG e0 b2 rel pre
  refine wpAny_call (codeAny_mono all ?_)
  intro r s' out
  match r, out with
  | .error e, out => exact False.elim out
  | .ok (.ret u), out => exact I.after out
  | .ok .next, out => exact out.elim
  | .ok .brk, out => exact out.elim
  | .ok .cont, out => exact out.elim
theorem own_hint {p : DSp} {E : Value → Shared → Prop} {dx : Addr} {us : List (Str × V)} {R : Hp → Prop} {Qb : Bool → Shared → Prop} (c : CalldS X.prog X.w X.K X.mg X.base k C "__len__" ps p) (room : Room (k + 1) A1) (fr : A1.frames = X.A.frames) (hG : A1.guards = some [])
    (I : Inv X pins σ H s) (ha : H a = some (.ins C dx us)) (pre : liP X.K p [.ref a] H (fun v H' => (∃ n : Nat, v = .int (n : Nat) ∧ n ≤ 16777216) ∧ R H') E0) (hQ : ∀ b s' H', Inv X pins σ H' s' → R H' → Qb b s') :
    wpAny (model X.prog X.w) A1 (Builtin.List.listLengthHint (.ref a)) Qb E s := by
  obtain ⟨⟨f, fd, F, hs, hf, bd⟩, mp⟩ := c
  obtain ⟨mA, J, _⟩ := ins_get I.hok ha
  obtain ⟨od, J, _⟩ := J.look
  obtain ⟨m0, hF⟩ := I.fr
  have len : wpAny (model X.prog X.w) A1 (call (.builtin "len") [.ref a]) (fun v s' => ∃ (n : Nat) (t : Tok) (H' : Hp), v = .int n t ∧ n ≤ 16777216 ∧ Inv X pins σ H' s' ∧ R H') (fun _ _ => False) s := by
    refine PySem.W.len_K hF I.ok.mod.kin J hs hf (wpAny_mono (run_GE F room.in1 fr hG bd I (show Vals [V.ref a] [Value.ref a] from .cons rfl .nil) pre) (fun u s' z => ?_) fun _ _ x => x)
    obtain ⟨v, H', I', rv, ⟨n, rfl, hn⟩, hr⟩ := z
    obtain ⟨t, rfl⟩ := rv
    exact ⟨⟨by omega, by omega⟩, n, _, H', rfl, hn, I'.tok _, hr⟩
  unfold Builtin.List.listLengthHint
  refine wpAny_bind (wpAny_bind (J.type.here ((PySem.W.looks_findIn I.kIn hs).here ?_)))
  refine PySem.W.KFB.if_not rfl ?_
  refine PySem.W.KFB.if_so rfl ?_
  refine wpAny_bind (wpAny_rule ?_)
  refine wpAny_bind (wpAny_attempt (wpAny_mono len (fun v s' z => ?_) fun _ _ z => z.elim))
  obtain ⟨n, t, H', rfl, hn, I', hr⟩ := z
  have small : Builtin.List.listTooLong ((n : Int)).toNat = false := by
    unfold Builtin.List.listTooLong
    rw [Int.toNat_natCast, sizeLine_eq]
    exact decide_eq_false (by omega)
  refine wpAny_bind (wpAny_of_eq (rfl : asInt? (.int (n : Int) t) = pure (some (n : Int))) ?_)
  refine PySem.W.KFB.if_not small ?_
  exact wpAny_pure (hQ _ _ _ I' hr)
end
end Pd
/-! list(o), o an instance whose own __iter__ gives iter(a tuple of its own): the rule. -/
namespace Pd
open PySem PySem.Spec PySem.Calls PyProof.Rows L2
section
variable {X : Cx} {pins : List (Addr × Obj)} {σ : L2.St} {H : Hp} {s : Shared} {A1 : Around}
/-- the list at q takes what the iterator at it of the tuple at l has left -/
theorem ext_loop {q l it : Addr} {zs : List V} {Rs : Result → Shared → Prop} (hc : A1.in1.handled = none) (hl : zs.length ≤ sizeLine) (nq : q ≠ it) (nl : l ≠ q) (hq0 : SqT X.K H l zs)
    (hdone : ∀ s, Inv X pins σ (upd H q (.lst zs)) s → Rs (.ok (.ret .none)) s) : ∀ (k i : Nat) (s : Shared), zs.length - i = k → i ≤ zs.length → Inv X pins σ (upd H q (.lst (zs.take i))) s → (SqT X.K (upd H q (.lst (zs.take i))) l zs) → s.heap.IsTupleIter it l i → (∀ ys, FpOk X pins (upd H q (.lst ys)) it) →
      codeAny (model X.prog X.w) A1 (.builtin "list.extend.loop" ⟨[.ref q, .ref it, .none], []⟩) Rs s := by
  intro k
  induction k with
  | zero =>
    intro i s hk hi I hq st fp
    have e : i = zs.length := by omega
    subst e
    rw [List.take_length] at I hq
    refine codeAny_builtin PySem.F.entry_extend_loop ?_
    rw [Around.under_plainId PySem.F.plain_extend_loop _]
    show wpAny _ A1.in1 (pyNext (.ref it) >>= _) _ _ s
    obtain ⟨its, rv, pl, hz⟩ := I.tuple hq
    obtain ⟨f0, f1, f2, f3, f4, f5⟩ := fp zs
    have len := rv.length
    refine wpAny_bind (wpAny_pyNext_tuple_end hc st (show s.heap.IsTuple l its.toArray from pl) (by simp; omega) fun h' eb => ?_)
    exact wpAny_pure (hdone _ (I.turned (t' := s.toks) (fun b o hb e => eb b o hb e) f0 f1 f3 f4 f5))
  | succ k ih =>
    intro i s hk hi I hq st fp
    have lt : i < zs.length := by omega
    refine codeAny_builtin PySem.F.entry_extend_loop ?_
    rw [Around.under_plainId PySem.F.plain_extend_loop _]
    show wpAny _ A1.in1 (pyNext (.ref it) >>= _) _ _ s
    obtain ⟨its, rv, pl, hz⟩ := I.tuple hq
    obtain ⟨u, hu, ru⟩ := rv.get (List.getElem?_eq_getElem lt)
    obtain ⟨f0, f1, f2, f3, f4, f5⟩ := fp (zs.take i)
    refine wpAny_bind (wpAny_pyNext_tuple_item st (show s.heap.IsTuple l its.toArray from pl) (x := u) (by simpa using hu) fun h' st' sb => ?_)
    have I1 : Inv X pins σ (upd H q (.lst (zs.take i))) { s with heap := h' } := I.turned (t' := s.toks) (fun b o hb e => (sb.2 b hb).trans e) f0 f1 f3 f4 f5
    obtain ⟨z, its2, k2, r2, hl2, e2⟩ := I1.lstM upd_same
    have len2 := r2.length
    rw [List.length_take] at len2
    show wpAny _ A1.in1 (updateSeq q (·.push u) >>= _) _ _ _
    refine wpAny_bind (wpAny_updateSeq e2 rfl (wpAny_pure ⟨plainId_quiet PySem.F.plain_extend_loop _, ?_⟩) (by rw [List.size_toArray]; omega) (by show (its2.toArray.push u).size ≤ sizeLine + 1; rw [Array.size_push, List.size_toArray]; omega))
    have e3 : zs.take (i + 1) = zs.take i ++ [zs[i]] := (List.take_append_getElem lt).symm
    have I2 := I1.lset (f := (·.push u)) (its' := its2 ++ [u]) (ys := zs.take (i + 1)) (t' := h'.objs.size - h'.objs.size + s.toks) upd_same e2 (by simp) (by rw [e3]; exact r2.append (.cons ru .nil)) (by rw [List.length_take]; omega)
    rw [upd_upd] at I2
    have e4 : h'.objs.size - h'.objs.size + s.toks = s.toks := by omega
    rw [e4] at I2
    refine ih (i + 1) _ (by omega) (by omega) I2 ?_ (st'.at fun o e => (Heap.get?_update_other _ _ (fun h : q = it => nq h)).trans e) fp
    rcases hq0 with (hq0 | ⟨o, hq0⟩) | hq0
    · exact .inl (.inl (by rw [upd_ne nl]; exact hq0))
    · exact .inl (.inr ⟨o, by rw [upd_ne nl]; exact hq0⟩)
    · exact .inr hq0
theorem own_pyIter2 {A1 : Around} {k : Nat} {C : Addr} {f : Str} (c : IterAt X.prog X.w X.K X.mg X.base k C f) (room : Room k A1) (fr : A1.frames = X.A.frames) (hG : A1.guards = some []) (I : Inv X pins σ H s) {a dx l : Addr} {us : List (Str × V)} {xs : List V}
    (ha : H a = some (.ins C dx us)) (hu : us.lookup f = some (.ref l)) (hq : SqT X.K H l xs) {Q : Value → Shared → Prop}
    (hQ : ∀ s' it, Inv X pins σ (upd H it (TtO l it 0)) s' → H it = none → s.heap.objs.size ≤ it → Q (.ref it) s') : wpAny (model X.prog X.w) A1 (pyIter (.ref a)) Q X.xe s := by
  obtain ⟨g, fd, F, it_, itF, bd⟩ := c.ex
  obtain ⟨mA, J, _⟩ := ins_get I.hok ha
  obtain ⟨od, J, _⟩ := J.look
  obtain ⟨m0, hF⟩ := I.fr
  refine PySem.W.owit_iter hF I.ok.mod.kin J it_ itF ?_
  have e0 : Env0 X.prog X.w X.K X.mg X.base A1 X.stack s H := by
    have e := I.env0
    exact ⟨by rw [fr]; exact e.frames, e.mod, e.bs, e.bsz, e.funs, e.frf, e.hok, e.bare⟩
  have r2 : Vals [V.ref a] [Value.ref a] := .cons rfl .nil
  have pre : spIter X.K C f s.heap.objs.size [.ref a] H (fun v H' => ∃ it, v = .ref it ∧ H it = none ∧ s.heap.objs.size ≤ it ∧ H' = upd H it (TtO l it 0)) E0 :=
    ⟨a, dx, us, l, xs, rfl, ha, hu, hq, fun it n z => ⟨it, rfl, n, z, rfl⟩⟩
  have len2 : ([Value.ref a] : List Value).length = ["self"].length := rfl
  have b2 := bd s [.ref a] I.kIn len2
  refine wpAny_call (codeAny_mono (F.goes A1 X.stack s H ⟨[.ref a], []⟩ [.ref a] [.ref a] _ E0 room hG e0 b2 r2 pre) fun r s' hq' => ?_)
  cases r with
  | error e => exact pass0 pins σ H s e s' I hq'
  | ok fl =>
    cases fl with
    | next => exact False.elim hq'
    | brk => exact False.elim hq'
    | cont => exact False.elim hq'
    | ret u =>
      obtain ⟨v, H', I', rv, it, ev, nit, sz, eH⟩ := I.after hq'
      subst ev eH
      cases (show u = Value.ref it from rv)
      have at_ : upd H it (TtO l it 0) it = some (TtO l it 0) := upd_same
      have ti : s'.heap.IsTupleIter it l 0 := (I'.hok it _ at_).1
      unfold PySem.W.OwitIt
      exact wpAny_specialOf ti.typeIs PySem.F.slot_tuple_iterator_next.lookup (hQ s' it I' nit sz)
end
/-! ### the rule -/
def rListO (K : PySem.W.Frag) (C : Addr) (f : Str) (sp : Sp) : List V → Hp → VK → Prop := fun xs H Q => ∃ a dx us l zs, xs = [.ref a] ∧ H a = some (.ins C dx us) ∧ us.lookup f = some (.ref l) ∧ SqT K H l zs ∧ ∀ q it, H q = none → H it = none → q ≠ it →
  sp [.ref a] (upd (upd H q (.lst [])) it (TtO l it 0)) (fun v H2 => (∃ n : Nat, v = .int (n : Nat) ∧ n ≤ 16777216) ∧ (H2 q = some (.lst []) ∧ H2 it = some (TtO l it 0) ∧ SqT K H2 l zs ∧ Q (.ref q) (upd (ItX.dropH H2 it) q (.lst zs)))) E0
theorem sqt_upd {K : PySem.W.Frag} {H : Hp} {a l : Addr} {o : HO} {zs : List V} (n : l ≠ a) (h : SqT K H l zs) : SqT K (upd H a o) l zs := by
  rcases h with (h | ⟨o', h⟩) | h
  · exact .inl (.inl (by rw [upd_ne n]; exact h))
  · exact .inl (.inr ⟨o', by rw [upd_ne n]; exact h⟩)
  · exact .inr h
theorem sqt_drop {K : PySem.W.Frag} {H : Hp} {a l : Addr} {zs : List V} (n : l ≠ a) (h : SqT K H l zs) : SqT K (ItX.dropH H a) l zs := by
  rcases h with (h | ⟨o', h⟩) | h
  · exact .inl (.inl (by rw [ItX.dropH_ne n]; exact h))
  · exact .inl (.inr ⟨o', by rw [ItX.dropH_ne n]; exact h⟩)
  · exact .inr h
section
variable {X : Cx} {C : Addr} {f : Str} {k : Nat} {p : DSp} {ps : List Str}
/-- how what fills a list ends: it is done, or goes on as a loop of the language's own -/
abbrev Fill (X : Cx) (A1 : Around) (R : Result → Shared → Prop) : PySem.Fin → Shared → Prop
  | .done f, t => R (.ok f) t
  | .again c, t => c.quiet = true ∧ codeAny (model X.prog X.w) A1 c R t
/-- a new list is emptied once more before it is filled: that changes nothing -/
theorem emptied {pins : List (Addr × Obj)} {σ : L2.St} {H : Hp} {s : Shared} {A1 : Around} {q : Addr} {B : Sem PySem.Fin} {G : PySem.Fin → Shared → Prop} {E : Value → Shared → Prop}
    (at_ : s.heap.get? q = some { cls := .type "list", data := .seq #[] }) (J : Inv X pins σ (upd H q (.lst [])) s)
    (go : ∀ t, Inv X pins σ (upd H q (.lst [])) t → wpAny (model X.prog X.w) A1 B G E t) :
    wpAny (model X.prog X.w) A1 (Builtin.List.listItems (.ref q) >>= fun old => Builtin.List.listUpdate (.ref q) (fun _ => #[]) >>= fun _ => letGo old.toList.reverse >>= fun _ => B) G E s := by
  have J' := J.lset (f := fun _ => #[]) (t' := s.toks) (ys := []) (its := []) (its' := []) upd_same at_ rfl .nil (by decide)
  rw [upd_upd] at J'
  delta Builtin.List.listItems Builtin.List.listUpdate
  refine wpAny_bind (wpAny_bind (wpAny_seqItems at_ rfl (wpAny_pure (wpAny_bind ?_))))
  exact wpAny_updateSeq (f := fun _ => #[]) at_ rfl (wpAny_bind (wpAny_letGo (go _ J'))) (Nat.zero_le _) (Nat.zero_le _)
/-- list(b): a new empty list, and what fills it from b -/
theorem list_opens {pins : List (Addr × Obj)} {σ : L2.St} {H : Hp} {s : Shared} {b : Value} {R : Value → Shared → Prop} {E : Value → Shared → Prop} (I : Inv X pins σ H s)
    (go : ∀ t, Inv X pins σ (upd H s.heap.objs.size (.lst [])) t → wpAny (model X.prog X.w) X.A.in1.in1 (Builtin.List.listExtendWith (.ref s.heap.objs.size) b .none)
      (Fill X X.A.in1 (wants (fun r t => r = .none ∧ R (.ref s.heap.objs.size) t) E)) (fun e t => wants (fun r t => r = .none ∧ R (.ref s.heap.objs.size) t) E (.error e) t) t) :
    wpAny (model X.prog X.w) X.A (call (.type "list") [b]) R E s := by
  have J := I.lnew (its := []) (ys := []) (t' := s.toks) .nil (Nat.zero_le _)
  refine callType_codes PySem.F.called_list (PySem.F.typeCall_list_1 _) PySem.F.entry_list_init (code_list_new (Q₁ := fun o t => o = .ref s.heap.objs.size ∧ t = { s with heap := s.heap.push { cls := .type "list", data := .seq #[] } }) _ ⟨rfl, rfl⟩) ?_
  rintro _ _ ⟨rfl, rfl⟩
  have at_ : (s.heap.push { cls := .type "list", data := .seq #[] }).get? _ = _ := Heap.get?_push_size _ rfl
  refine ⟨⟨_, at_, rfl⟩, PySem.F.args_list_init_2 _ _, wpAny_mono (emptied at_ J go) (fun fin t z => ?_) fun _ _ z => z⟩
  cases fin <;> exact z
/-- an empty list is made longer by one and shorter again: nothing has changed -/
theorem room_made {pins : List (Addr × Obj)} {σ : L2.St} {H : Hp} {s : Shared} {A1 : Around} {q : Addr} {G : Unit → Shared → Prop} {E : Value → Shared → Prop} (I : Inv X pins σ H s) (z : H q = some (.lst []))
    (go : ∀ h', (∀ b o, b ≠ q → s.heap.get? b = some o → h'.get? b = some o) → Inv X pins σ H { s with heap := h' } → G () { s with heap := h' }) :
    wpAny (model X.prog X.w) A1 (updateSeq q (·.push .none) >>= fun _ => updateSeq q (·.pop)) G E s := by
  have back : upd (upd H q (.lst [.non])) q (.lst []) = H := by
    rw [upd_upd]
    funext b
    by_cases hb : b = q
    · rw [hb, upd_same, z]
    · rw [upd_ne hb]
  obtain ⟨_, its, _, r, _, at1⟩ := I.lstM z
  cases r
  have J := I.lset (f := (·.push Value.none)) (its' := [Value.none]) (ys := [.non]) (t' := s.toks) z at1 (by simp) (.cons rfl .nil) (by show 1 ≤ sizeLine; rw [sizeLine_eq]; decide)
  obtain ⟨_, its, _, r, _, at2⟩ := J.lstM upd_same
  obtain ⟨u, rfl, _⟩ := r.one
  have J2 := J.lset (f := (·.pop)) (its := [u]) (its' := []) (ys := []) (t' := s.toks) upd_same at2 rfl .nil (Nat.zero_le _)
  rw [back] at J2
  refine wpAny_bind (wpAny_updateSeq at1 rfl (wpAny_updateSeq at2 rfl (go _ (fun b o n e => ?_) J2) (by show 1 ≤ sizeLine; rw [sizeLine_eq]; decide) (Nat.zero_le _)))
  exact (Heap.get?_update_other _ _ (Ne.symm n)).trans ((Heap.get?_update_other _ _ (Ne.symm n)).trans e)
theorem call_listO (hc : X.calm = true) (ci : IterAt X.prog X.w X.K X.mg X.base k C f) (cl : CalldS X.prog X.w X.K X.mg X.base k C "__len__" ps p) (room : Room (k + 3) X.A) (hG : X.A.guards = some []) : CallR X (.type "list") (rListO X.K C f (liP X.K p)) := by
  intro pins s σ H args vals Q I rv h
  obtain ⟨a, dx, fs, l, zs, rfl, ha, hu, hq, hrun⟩ := h
  obtain ⟨_, rfl, rfl⟩ := rv.one
  have fr : H s.heap.objs.size = none := I.hok.fresh Nat.le.refl
  have na := ne_of_none ha fr
  obtain ⟨lz, ll⟩ : zs.length ≤ sizeLine ∧ l < s.heap.objs.size := by
    obtain ⟨its, _, ⟨o, ho, _⟩, hz⟩ := I.tuple hq
    exact ⟨hz, Heap.lt_size ho⟩
  have nlq := Nat.ne_of_lt ll
  refine list_opens I fun t I2 => ?_
  have ha2 : upd H s.heap.objs.size (.lst []) a = some (.ins C dx fs) := by rw [upd_ne na]; exact ha
  have hq2 : SqT X.K (upd H s.heap.objs.size (.lst [])) l zs := sqt_upd nlq hq
  obtain ⟨_, J, _⟩ := ins_get I2.hok ha2
  obtain ⟨_, J, _⟩ := J.look
  have other : Builtin.List.listSameRef (.ref s.heap.objs.size) (.ref a) = false := by simp [Builtin.List.listSameRef, Ne.symm na]
  delta Builtin.List.listExtendWith
  refine wpAny_bind (J.type.here ?_)
  simp only [other, show (Value.ref C == Value.type "list") = false from rfl, show (Value.ref C == Value.type "tuple") = false from rfl, Bool.or_false, Bool.false_eq_true, ↓reduceIte]
  have room2 : Room (k + 1) X.A.in1.in1 := room.in1.in1
  refine wpAny_bind (own_pyIter2 ci (room2.mono (Nat.le_succ _)) rfl hG I2 ha2 hu hq2 fun t1 it I3 nit sz => ?_)
  have nqi : s.heap.objs.size ≠ it := fun z => by rw [← z, upd_same] at nit; cases nit
  have hit : H it = none := by rw [upd_ne (Ne.symm nqi)] at nit; exact nit
  have nai : a ≠ it := ne_of_none ha hit
  have ha3 : upd (upd H s.heap.objs.size (.lst [])) it (TtO l it 0) a = some (.ins C dx fs) := by rw [upd_ne nai]; exact ha2
  refine wpAny_bind (wpAny_holding (own_hint cl room2 rfl hG I3 ha3 (hrun _ it fr hit nqi) fun b s3 H3 I4 z => ?_))
  obtain ⟨z1, z2, z3, z4⟩ := z
  have nli : l ≠ it := fun e => by
    obtain ⟨its, rv, pl, hz⟩ := I2.tuple hq2
    obtain ⟨o, ho, _⟩ := (show Heap.IsTuple _ l its.toArray from pl)
    have l2 := Nat.lt_of_lt_of_le (Heap.lt_size ho) sz
    rw [e] at l2
    exact Nat.lt_irrefl _ l2
  have I5 := ItX.inv_drop I4 z2
  have fp := ItX.inv_fp I4 z2 (Nat.le_trans I2.sz sz)
  have st : s3.heap.IsTupleIter it l 0 := (I4.hok it _ z2).1
  have z1' : ItX.dropH H3 it s.heap.objs.size = some (.lst []) := by rw [ItX.dropH_ne nqi]; exact z1
  have same : upd (ItX.dropH H3 it) s.heap.objs.size (.lst []) = ItX.dropH H3 it := by
    funext b
    by_cases hb : b = s.heap.objs.size
    · rw [hb, upd_same, z1']
    · rw [upd_ne hb]
  have fps : ∀ ys, FpOk X pins (upd (ItX.dropH H3 it) s.heap.objs.size (.lst ys)) it := fun ys => by
    obtain ⟨f0, f1⟩ := fp
    exact ⟨by rw [upd_ne (Ne.symm nqi)]; exact f0, f1⟩
  have z3' : SqT X.K (ItX.dropH H3 it) l zs := sqt_drop nli z3
  have done : ∀ s4, Inv X pins σ (upd (ItX.dropH H3 it) s.heap.objs.size (.lst zs)) s4 → wants (fun r s₂ => r = Value.none ∧ EP X pins σ Q (Value.ref s.heap.objs.size) s₂) X.xe (.ok (.ret .none)) s4 := fun s4 I6 => ⟨rfl, .ref s.heap.objs.size, _, I6, rfl, z4⟩
  have go : ∀ s4, Inv X pins σ (ItX.dropH H3 it) s4 → s4.heap.IsTupleIter it l 0 → codeAny (model X.prog X.w) X.A.in1 (.builtin "list.extend.loop" ⟨[.ref s.heap.objs.size, .ref it, .none], []⟩) (wants (fun r s₂ => r = Value.none ∧ EP X pins σ Q (Value.ref s.heap.objs.size) s₂) X.xe) s4 := fun s4 I6 st6 => by
    refine ext_loop (A1 := X.A.in1) (zs := zs) (I.ok.hd hc) lz nqi nlq z3' done zs.length 0 s4 rfl (Nat.zero_le _) ?_ ?_ st6 fps
    · rw [List.take_zero, same]
      exact I6
    · exact sqt_upd nlq z3'
  refine wpAny_ite_split (fun _ => ?_) (fun _ => wpAny_pure ⟨plainId_quiet PySem.F.plain_extend_loop _, go s3 I5 st⟩)
  refine wpAny_bind (wpAny_rule ?_)
  refine wpAny_bind (room_made I5 z1' fun h' other I6 => ?_)
  exact wpAny_pure ⟨plainId_quiet PySem.F.plain_extend_loop _, go _ I6 (st.at fun o e => other it o (Ne.symm nqi) e)⟩
end
end Pd
/-! list(o) as data; for x in xs + xs[:n], xs one's own; walks named by the frag; methods that return new things. -/
namespace Pd
open PySem PySem.Spec PyProof.Rows L2
section
variable {X : Cx} {w : Wd} {e tg ce : Expr} {pos : Pos} {te : TDE} {C : Addr} {f : Str} {k : Nat} {p : DSp} {ps : List Str}
def dItOwn2 (i : Nat) (h : Int) : TDI := fun r Q => ∃ ds, r[i]? = some (.own ds) ∧ ds.length + (cutD ds none (some h)).length ≤ sizeLine ∧ Q (ds ++ cutD ds none (some h))
theorem pid_ownCat {i : Nat} {x : Str} {h : Int} {p1 p2 p3 p4 p5 : Pos} (hce : PE X ce (tC (.int h))) (hi : X.N[i]? = some x := by rfl) (hv : Vis X.env.scope x := by first | exact Or.inl rfl | exact Or.inr (Or.inl rfl) | exact Or.inr (Or.inr rfl)) (hd : (x == ("__debug__" : Str)) = false := by decide) (hcd : (x == ("__classdict__" : Str)) = false := by decide) :
    PId X w tg (.BinOp (.Name x p1) .Add (.Subscript (.Name x p2) (.Slice none (some ce) none p3) p4) p5) (dItOwn2 i h) := by
  refine ⟨weI (pi_list (pe_op op_cat (pv i hi hv hd hcd) (pe_slice sl_list (pv i hi hv hd hcd) po_none (po_some hce)))) ?_, fun r Q Q' q ⟨ds, a, b, z⟩ => ⟨ds, a, b, q _ z⟩⟩
  rintro σ H R ⟨W, own, r, S, ds, hr, hl, q⟩
  obtain ⟨v, hv, a, xs, o1, rfl, o3, o4⟩ := S.sl i _ hr (fun z => by cases z)
  have cut := o4.cut none (some h)
  refine ⟨.ref a, hv, .ref a, hv, h, rfl, a, xs, rfl, SqL.of o3, fun p np => ?_⟩
  obtain ⟨n1, n2, n3, n4⟩ := S.ok.new (o := .lst (cutV xs none (some h))) np
  have pa : upd H p (.lst (cutV xs none (some h))) a = some (.lst xs) := by rw [upd_ne (ne_of_none o3 np)]; exact o3
  refine ⟨a, p, xs, _, rfl, rfl, pa, upd_same, by rw [o4.len, cut.len]; exact hl, fun c nc => ?_⟩
  obtain ⟨m1, m2, m3, m4⟩ := n2.new (o := .lst (xs ++ cutV xs none (some h))) nc
  exact ⟨c, rfl, ⟨_, SqL.of upd_same⟩, q _ _ (n1.trans m1) m2 (wlk_list m4 (DvAll.mono (fun b o z => m3 b o (n3 b o z)) _ _ (o4.app cut)))⟩
theorem pid_ownK (K' : PySem.W.Frag) (c : IterAt X.prog X.w K' X.mg X.base k C f) (room : Room k X.A) (hG : X.A.guards = some []) (h : PEd X w e te) (hk : X.K = K' := by rfl) : PId X w tg e (dItO K' C f te) := by
  subst hk
  exact pid_own c room hG h
/-! ### list(o) -/
def listOD (K : PySem.W.Frag) (C : Addr) (f : Str) (p : DSp) (te : TDE) : TDE := fun r Q => te r fun d => ∃ fs ds, d = insD K C fs ∧ fs.lookup f = some (.tup ds) ∧ noL (.tup ds) = true ∧ p [d] fun x => ∃ n : Nat, x = .int (n : Nat) ∧ n ≤ 16777216 ∧ Q (.lst ds)
theorem ped_listO {q : Pos} (K' : PySem.W.Frag) (ci : IterAt X.prog X.w K' X.mg X.base k C f) (cl : CalldS X.prog X.w K' X.mg X.base k C "__len__" ps p) (room : Room (k + 3) X.A) (hG : X.A.guards = some []) (hm : X.mg "list" = none) (he : PEd X w e te) (hk : X.K = K' := by rfl) (hc : X.calm = true := by rfl) (hg : Gl X "list" := by rfl)
    (st : starEach [e] X.env = (false, eval e X.env) :: starEach [] X.env := by rfl) (hpl : (backTo pos (starEach [] X.env)).any (·.1) = false := by rfl) : PEd X w (.Call (.Name "list" q) [e] [] pos) (listOD K' C f p te) := by
  subst hk
  have mp := cl.mp
  refine ⟨weE (pe_callTy (call_listO hc ci cl room hG) hg hm (by decide +kernel) (pa_cons he.pe pa_nil st) (by decide) (by decide) (by exact st) (by exact hpl)) ?_, fun r Q Q' q h => he.mo _ _ _ (fun d ⟨fs, ds, a, b, c, z⟩ => ⟨fs, ds, a, b, c, mp _ _ _ (fun x ⟨n, e, h, z⟩ => ⟨n, e, h, q _ z⟩) z⟩) h⟩
  rintro σ H Q ⟨W, own, r, S, h⟩
  refine go1 he S h fun d v H1 e1 k1 d1 z => ?_
  obtain ⟨fs, ds, ed, lk, nl, z⟩ := z
  subst ed
  obtain ⟨a, dx, us, l, xs, rfl, at_a, lu, h1, h2⟩ := insD_tup d1 lk nl
  refine ⟨a, dx, us, l, xs, rfl, (hid_some at_a).2, lu, sq_hid h1, fun q it nq nit nqi => ?_⟩
  obtain ⟨n1, n2, n3, n4⟩ := k1.new (o := .lst []) nq
  have nit2 : upd H1 q (.lst []) it = none := by rw [upd_ne (Ne.symm nqi)]; exact nit
  obtain ⟨m1, m2, m3, m4⟩ := n2.new (o := TtO l it 0) nit2
  have sm : Sm (hid W H1) (hid W (upd (upd H1 q (.lst [])) it (TtO l it 0))) := fun b o z => m3 b o (n3 b o z)
  have gno : ∀ b, H1 b = none → w.g ≠ some b := fun b hb z => by
    obtain ⟨o, y⟩ := k1.al b (k1.gW b z)
    rw [hb] at y; cases y
  refine ⟨w.g, W, _, m2, .cons (Dv.mono sm _ _ d1) .nil, mp _ _ _ (fun x ⟨n, ex, hn, z⟩ v H2 e2 k2 dv => ?_) z⟩
  subst ex
  cases dv
  have q2 : H2 q = some (.lst []) := e2 q _ (gno q nq) (by rw [upd_ne nqi]; exact upd_same)
  have it2 : H2 it = some (TtO l it 0) := e2 it _ (gno it nit) upd_same
  have sm2 : Sm (hid W H1) (hid W H2) := fun b o z => e2.hid m2.gW b o (sm b o z)
  refine ⟨⟨n, rfl, hn⟩, q2, it2, sq_hid (sqt_mono sm2 h1), ?_⟩
  -- the end
  let Hf : Hp := upd (ItX.dropH H2 it) q (.lst xs)
  have fne : ∀ b, b ≠ it → b ≠ q → Hf b = H2 b := fun b n1 n2 => by
    show upd (ItX.dropH H2 it) q (.lst xs) b = _
    rw [upd_ne n2, ItX.dropH_ne n1]
  have old : ∀ b o, H1 b = some o → b ≠ it ∧ b ≠ q := fun b o z => ⟨fun y => by (rw [y, nit] at z; cases z), fun y => by (rw [y, nq] at z; cases z)⟩
  have e12 : Ext w.g H1 H2 := (n1.trans m1).trans e2
  have ef : Ext w.g H1 Hf := ⟨fun b o n z => by rw [fne b (old b o z).1 (old b o z).2]; exact e12 b o n z, fun b ys z y => by rw [fne b (old b _ y).1 (old b _ y).2]; exact e12.last b ys z y⟩
  have kf : OkW X.K w.g W Hf := ⟨fun b hb => by
    obtain ⟨x, y, z, c, cs, q1, q2⟩ := k1.bag b hb
    obtain ⟨x', y', z', c', cs', q3, q4⟩ := k2.bag b hb
    obtain ⟨ys, q5, q6⟩ := e12.last b _ hb q1
    rw [q3] at q5
    cases q5
    have ec : c' = c := V.ref.inj (Option.some.inj q6)
    subst ec
    obtain ⟨q7, q8⟩ := hid_some q4
    have oc := old c' _ (hid_some q2).2
    have ob := old b _ q1
    exact ⟨x', y', z', c', cs', by rw [fne b ob.1 ob.2]; exact q3, by rw [hid_no q7, fne c' oc.1 oc.2]; exact q8⟩, k1.gW, fun b hb => by
    obtain ⟨o, q⟩ := k1.al b hb
    obtain ⟨o', q'⟩ := k2.al b hb
    exact ⟨o', by rw [fne b (old b o q).1 (old b o q).2]; exact q'⟩⟩
  have wq : W q = false := by
    cases y : W q with
    | false => rfl
    | true => obtain ⟨o, z⟩ := k1.al q y; rw [nq] at z; cases z
  exact z (.ref q) Hf (e1.trans ef) kf (.lst (by rw [hid_no wq]; exact upd_same) (DvAll.mono (ef.hid k1.gW) _ _ h2))
end
/-! ### methods that return new things -/
structure CalldMV (P : Program) (wd : World) (K : PySem.W.Frag) (mg : Str → Option Value) (base : Heap) (k : Nat) (C : Addr) (m : Str) (ps : List Str) (p : DSp) : Prop where
  ex : ∃ f fd, FnG P wd K mg base CX0 k f fd ps (liV K p) ∧ Meth K C m f ∧ Binds K fd ps []
  cl : Cls K C
  mp : MoP p
section
variable {P : Program} {wd : World} {K : PySem.W.Frag} {mg : Str → Option Value} {base : Heap} {j k : Nat} {C : Addr} {m x : Str} {ps : List Str} {p : DSp}
theorem CalldMV.up (c : CalldMV P wd K mg base j C m ps p) (h : j ≤ k) : CalldMV P wd K mg base k C m ps p := by
  obtain ⟨⟨f, fd, F, mt, bd⟩, cl, mp⟩ := c
  exact ⟨⟨f, fd, F.up h, mt, bd⟩, cl, mp⟩
theorem CalldMV.dat (c : CalldMV P wd K mg base k C m ps p) : CalldM P wd K mg base k C m ps p := by
  obtain ⟨⟨f, fd, F, a, b⟩, cl, mp⟩ := c
  exact ⟨⟨f, fd, ⟨fun vs H Q E ⟨g, W, ds, k1, dv, h⟩ => F.many vs H Q E ⟨g, W, ds, k1, dv, mp _ _ _ (fun _ => AftN.aft) h⟩, fun A outer s0 H args us vs Q E room hG z bd rel ⟨g, W, ds, k1, dv, h⟩ => F.goes A outer s0 H args us vs Q E room hG z bd rel ⟨g, W, ds, k1, dv, mp _ _ _ (fun _ => AftN.aft) h⟩⟩, a, b⟩, cl, mp⟩
theorem defMV {qual : Str} {st : Stmt} {N : List Str} {e : Expr} {pos : Pos} (At : MethAt K C m qual st ps) (cl : Cls K C) (one : defBody st = [.Return (some e) pos])
    (S : FnScope N ps (defScope st)) (len : ∀ ds Q, p ds Q → ds.length = ps.length) (mp : MoP p)
    (inside : ∀ (f : Addr) (cdv : Value) (A : Around) (outer : List Env) (s0 : Shared) (H : Hp) (E : XK) (w : Wd) (ds : List Da) (Q : Da → Prop), Room k (A.deeper (envOfC qual (defScope st) s0.heap.objs.size f cdv)) → A.guards = some [] → p ds Q →
      ∃ t, PVd (cxOf CX0 P wd K mg base N qual (defScope st) f cdv A outer s0 H E).nox w e t ∧ t (startD N ds) Q) :
    CalldMV P wd K mg base (k + 1) C m ps p := by
  obtain ⟨f, fd, F, mt, bd⟩ := At.ex
  refine ⟨⟨f, fd, FunG.ok F S ?_ ?_, mt, bd⟩, cl, mp⟩
  · rintro vs H Q E ⟨g, W, ds, k1, dv, h⟩
    rw [dv.len]
    exact len _ _ h
  · rintro cdv A outer s0 H vs Q E room hG ⟨g, W, ds, k1, dv, h⟩
    obtain ⟨t, ht, hq⟩ := inside f cdv A outer s0 H E ⟨H, g, W⟩ ds _ room hG h
    refine ⟨_, by rw [one]; exact pss_one (ps_ret ht.pe), ?_⟩
    exact ⟨W, fun _ _ => False, startD N ds, start_stt k1 dv, hq⟩
end
section
variable {X : Cx} {w : Wd} {o e : Expr} {es : List Expr} {to : TDE} {t : TDA} {m : Str} {pos apos : Pos} {C : Addr} {k : Nat} {ps : List Str} {p : DSp}
theorem pvd_methI {pl : Sem Bool} (c : CalldMV X.prog X.w X.K X.mg X.base k C m ps p) (room : Room k X.A) (hG : X.A.guards = some []) (ho : PEd X w o to) (args : PAd X w (e :: es) t)
    (st : starEach (e :: es) X.env = (false, eval e X.env) :: starEach es X.env := by rfl) (bk : (backTo pos (starEach es X.env)).any (·.1) = false := by rfl)
    (tree : eval (.Call (.Attribute o m apos) (e :: es) [] pos) X.env = (do
      let rv ← eval o X.env
      standAt apos.atName
      let (fv, fst) ← holding [rv] (getMethod rv m pl)
      callWith pos fv fst (backTo pos (starEach (e :: es) X.env)) (backToKw pos (keywordEach [] X.env))) := by rfl) :
    PVd X w (.Call (.Attribute o m apos) (e :: es) [] pos) (fun r Q => to r fun d => (∃ fs, d = insD X.K C fs ∧ fs.lookup m = none) ∧ t r fun ds => p (d :: ds) Q) := by
  obtain ⟨⟨f, fd, F, mt, bd⟩, cl, mp⟩ := c
  refine ⟨weE (pe_methG (E := E0) ho.pe cl mt F room hG bd .nil pass0 args.pa st bk tree) ?_, fun r Q Q' q h => ho.mo _ _ _ (fun d z => ⟨z.1, args.mo _ _ _ (fun ds z => mp _ _ _ q z) z.2⟩) h⟩
  rintro σ H Q ⟨W, own, r, S, h⟩
  refine go1 ho S h fun d v H1 e1 k1 d1 z => ?_
  obtain ⟨⟨fs, ed, lk⟩, z⟩ := z
  subst ed
  obtain ⟨a, dx, us, rfl, at_a, fl⟩ := insD_at d1
  refine ⟨a, dx, us, rfl, (hid_some at_a).2, fl.no lk, ?_⟩
  refine goA args (S.ext e1 k1) z fun xs vs H2 e2 k2 d2 z => ?_
  rw [List.append_nil]
  exact ⟨w.g, W, _, k2, .cons (Dv.mono (e2.hid k1.gW) _ _ d1) d2, mp _ _ _ (fun x q => AftN.then q (e1.trans e2) k2) z⟩
theorem pvd_methI0 {pl : Sem Bool} (c : CalldMV X.prog X.w X.K X.mg X.base k C m ps p) (room : Room k X.A) (hG : X.A.guards = some []) (ho : PEd X w o to)
    (tree : eval (.Call (.Attribute o m apos) [] [] pos) X.env = (do
      let rv ← eval o X.env
      standAt apos.atName
      let (fv, fst) ← holding [rv] (getMethod rv m pl)
      callWith pos fv fst (backTo pos (starEach [] X.env)) (backToKw pos (keywordEach [] X.env))) := by rfl) :
    PVd X w (.Call (.Attribute o m apos) [] [] pos) (fun r Q => to r fun d => (∃ fs, d = insD X.K C fs ∧ fs.lookup m = none) ∧ p [d] Q) := by
  obtain ⟨⟨f, fd, F, mt, bd⟩, cl, mp⟩ := c
  refine ⟨weE (pe_methG0 (E := E0) ho.pe cl mt F room hG bd .nil pass0 tree) ?_, fun r Q Q' q h => ho.mo _ _ _ (fun d z => ⟨z.1, mp _ _ _ q z.2⟩) h⟩
  rintro σ H Q ⟨W, own, r, S, h⟩
  refine go1 ho S h fun d v H1 e1 k1 d1 z => ?_
  obtain ⟨⟨fs, ed, lk⟩, z⟩ := z
  subst ed
  obtain ⟨a, dx, us, rfl, at_a, fl⟩ := insD_at d1
  refine ⟨a, dx, us, rfl, (hid_some at_a).2, fl.no lk, ?_⟩
  exact ⟨w.g, W, _, k1, .cons d1 .nil, mp _ _ _ (fun x q => AftN.then q e1 k1) z⟩
/-! ### list(t), a new list -/
theorem pfd_lstF {q : Pos} (hm : X.mg "list" = none) (args : PAd X w (e :: es) t) (hg : Gl X "list" := by rfl) (he : starEach (e :: es) X.env = (false, eval e X.env) :: starEach es X.env := by rfl) (hpl : (backTo pos (starEach es X.env)).any (·.1) = false := by rfl) :
    PFd X w (.Call (.Name "list" q) (e :: es) [] pos) (fun r Q => t r fun ds => ∃ x xs, ds = [x] ∧ seqOf x = some xs ∧ Q xs) := by
  refine ⟨weE (pe_callTy call_list_of hg hm (by decide +kernel) args.pa (by decide) (by decide) he hpl) ?_, fun r Q Q' q h => args.mo _ _ _ (fun ds ⟨x, xs, a, b, h⟩ => ⟨x, xs, a, b, q _ h⟩) h⟩
  rintro σ H Q ⟨W, own, r, S, h⟩
  refine goA args S h fun xs vs H1 e1 k1 d1 z => ?_
  obtain ⟨x, ys, rfl, h1, z⟩ := z
  obtain ⟨v, rfl, dx⟩ := d1.one
  obtain ⟨a, us, rfl, hq, hd⟩ := seq_sq dx h1
  exact ⟨a, us, rfl, hq, fun l nl => z l us H1 e1 k1 nl hd⟩
end
end Pd
/-! An attribute read within a comprehension. -/
namespace Pd
open PySem PySem.Spec PyProof.Rows L2
section
variable {X : Cx} {w : Wd} {o : Expr} {to : TDE} {f : Str} {pos : Pos}
theorem ped_fldIK (K' : PySem.W.Frag) (ho : PEd X w o to) (hk : X.K = K' := by rfl) (hb : attributeBase o f X.env (eval o X.env) = eval o X.env := by rfl) : PEd X w (.Attribute o f pos) (dFld K' to f) := by
  subst hk
  exact ped_fldI ho hb
end
end Pd
/-! x = x + [e, ..], x a list of one's own. -/
namespace Pd
open PySem PySem.Spec PyProof.Rows L2
section
variable {X : Cx} {w : Wd} {es : List Expr}
def dOwnAdd (t : TDA) (i : Nat) : TDS := fun E r => ∃ ds, r[i]? = some (.own ds) ∧ t r fun es => ds.length + es.length ≤ sizeLine ∧ es.length ≤ sizeLine ∧ E.nx (r.set i (.own (ds ++ es)))
theorem psd_ownAdd {i : Nat} {x : Str} {p p2 p3 pos pos' : Pos} {t : TDA} (he : PAd X w es t) (hN : X.N.Nodup) (hi : X.N[i]? = some x := by rfl) (hx : Loc X.env.scope x := by first | exact .inl rfl | exact .inr rfl) (hv : Vis X.env.scope x := by first | exact Or.inl rfl | exact Or.inr (Or.inl rfl) | exact Or.inr (Or.inr rfl)) (hd : (x == ("__debug__" : Str)) = false := by decide) (hcd : (x == ("__classdict__" : Str)) = false := by decide)
    (hs : swapsWith (.BinOp (.Name x p) .Add (.List es p2) p3) (some (.Name x pos')) pos.line X.env = pure false := by rfl) (hf : X.fn x = true ∨ X.env.scope.names.lookup x = some .local := by first | exact .inl rfl | exact .inr rfl) :
    PSd X w (.Assign [.Name x pos'] (.BinOp (.Name x p) .Add (.List es p2) p3) pos) (dOwnAdd t i) := by
  refine ⟨weS (ps_set hN hi hx (pe_op op_cat (pv i hi hv hd hcd) (pe_lst he.pa)) hs hf) ?_, fun E E' r l ⟨ds, a, h⟩ => ⟨ds, a, he.mo _ _ _ (fun d z => ⟨z.1, z.2.1, l.nx _ z.2.2⟩) h⟩⟩
  rintro D σ H ⟨W, own, r, S, ds, hr, h⟩
  obtain ⟨v, hv, a, xs, o1, rfl, o3, o4⟩ := S.sl i _ hr (fun z => by cases z)
  refine ⟨.ref a, hv, ?_⟩
  refine goA he S h fun es ys H1 e1 k1 dv z => ?_
  refine ⟨by rw [dv.len]; exact z.2.1, fun q nq => ?_⟩
  obtain ⟨n1, n2, n3, n4⟩ := k1.new (o := .lst ys) nq
  have ga : w.g ≠ some a := (S.oW i a o1.1).2.2
  have qa : upd H1 q (.lst ys) a = some (.lst xs) := by rw [upd_ne (ne_of_none (e1 a _ ga o3) nq)]; exact e1 a _ ga o3
  refine ⟨a, q, xs, ys, rfl, rfl, qa, upd_same, by rw [o4.len, dv.len]; exact z.1, fun p np => ?_⟩
  have S1 := S.ext (e1.trans n1) n2
  have dxs : DvAll X.K w.g (hid W (upd H1 q (.lst ys))) xs ds := DvAll.mono (fun b o y => n3 b o (e1.hid S.ok.gW b o y)) _ _ o4
  obtain ⟨⟨own', S'⟩, gr⟩ := S1.newOwn i np (dxs.app (DvAll.mono n3 _ _ dv))
  exact z.2.2 _ own' _ _ ((Grow.of n2 (e1.trans n1)).trans gr) S'
/-! ### xs[::-1], a list -/
def dBackL (te : TDE) : TDE := fun r Q => te r fun x => ∃ xs, x = .lst xs ∧ Q (.lst xs.reverse)
theorem ped_backL {e : Expr} {te : TDE} {k : Nat} {p1 p2 p3 pos : Pos} (he : PEd X w e te) : PEd X w (.Subscript e (.Slice none none (some (.UnaryOp .USub (.Constant (.int 1) k p1) p2)) p3) pos) (dBackL te) := by
  refine ⟨weE (pe_revL he.pe) ?_, fun r Q Q' q h => he.mo _ _ _ (fun d ⟨xs, a, b⟩ => ⟨xs, a, q _ b⟩) h⟩
  rintro σ H Q ⟨W, own, r, S, z⟩
  refine go1 he S z fun d v H1 e1 k1 d1 ⟨xs, h1, h2⟩ => ?_
  subst h1
  cases d1 with
  | lst a1 a2 => exact ⟨_, _, rfl, SqL.of (hid_some a1).2, fun p np => (h2.then e1).newL k1 np (DvAll.rev a2)⟩
end
end Pd
/-! A dict of numbers and texts is walked over while it is read: it is locked for one expression. -/
namespace Pd
open PySem PySem.Spec PyProof.Rows L2
/-! ### data that stand in any heap -/
def GrdD : Da → Prop
  | .int _ => True
  | .str _ => True
  | _ => False
def Grd (kvs : List (Key × Da)) : Prop := ∀ kv ∈ kvs, GrdD kv.2
inductive KvG : List (Key × V) → List (Key × Da) → Prop
  | nil : KvG [] []
  | int {k : Key} {i : Int} {us : List (Key × V)} {kvs : List (Key × Da)} : KvG us kvs → KvG ((k, .int i) :: us) ((k, .int i) :: kvs)
  | str {k : Key} {x : Str} {us : List (Key × V)} {kvs : List (Key × Da)} : KvG us kvs → KvG ((k, .str x) :: us) ((k, .str x) :: kvs)
theorem KvG.of {K : PySem.W.Frag} {g : Option Addr} {H : Hp} : ∀ {kvs : List (Key × Da)} {us : List (Key × V)}, KvAll K g H us kvs → Grd kvs → KvG us kvs
  | [], _, h, _ => by cases h; exact .nil
  | (k, d) :: kvs, _, h, q => by
    cases h with
    | cons a t =>
      have r := KvG.of t fun kv m => q kv (List.mem_cons_of_mem _ m)
      have c := q (k, d) List.mem_cons_self
      cases a with
      | int i => exact .int r
      | str x => exact .str r
      | _ => exact c.elim
theorem KvG.all {K : PySem.W.Frag} {g : Option Addr} {H : Hp} : ∀ {us : List (Key × V)} {kvs : List (Key × Da)}, KvG us kvs → KvAll K g H us kvs
  | _, _, .nil => .nil
  | _, _, .int h => .cons (.int _) h.all
  | _, _, .str h => .cons (.str _) h.all
/-- the dict that is locked -/
def frzd (kvs : List (Key × Da)) : Hp → V → Prop := fun H v => ∃ a o us, v = .ref a ∧ H a = some (.frz o (.dK us)) ∧ KvG us kvs
mutual
def nofix : Da → Bool
  | .lst ds => nofixs ds
  | .tup ds => nofixs ds
  | .tpw ds => nofixs ds
  | .dct kvs => nofixk kvs
  | .fix _ => false
  | _ => true
def nofixs : List Da → Bool
  | [] => true
  | d :: ds => nofix d && nofixs ds
def nofixk : List (Key × Da) → Bool
  | [] => true
  | (_, d) :: ds => nofix d && nofixk ds
end
theorem nofixs_all : ∀ {ds : List Da}, (∀ d ∈ ds, nofix d = true) → nofixs ds = true
  | [], _ => rfl
  | d :: ds, h => by
    show (nofix d && nofixs ds) = true
    rw [h d List.mem_cons_self, nofixs_all fun x m => h x (List.mem_cons_of_mem _ m)]
    rfl
theorem nofix_key (k : Key) : nofix (kD k) = true := by cases k <;> rfl
/-- all but dicts that are locked stays -/
def Tr (H H' : Hp) : Prop := ∀ b o, H b = some o → (∀ od us, o ≠ .frz od (.dK us)) → H' b = some o
section
variable {K : PySem.W.Frag} {g : Option Addr} {H H' : Hp}
theorem sqt_tr {a : Addr} {xs : List V} (e : Tr H H') (h : SqT K H a xs) : SqT K H' a xs := by
  rcases h with (h | ⟨o, h⟩) | h
  · exact .inl (.inl (e _ _ h fun _ _ z => nomatch z))
  · exact .inl (.inr ⟨o, e _ _ h fun _ _ z => nomatch z⟩)
  · exact .inr h
theorem tups_tr {a : Addr} {xs : List V} (e : Tr H H') (h : TupS K H a xs) : TupS K H' a xs := by
  rcases h with ⟨o, h, n⟩ | h
  · exact .inl ⟨o, e _ _ h fun _ _ z => (nomatch z), n⟩
  · exact .inr h
mutual
theorem Dv.tr (e : Tr H H') : ∀ (d : Da) (v : V), nofix d = true → Dv K g H v d → Dv K g H' v d
  | .non, _, _, h => by cases h; exact .non
  | .bl _, _, _, h => by cases h; exact .bl _
  | .int _, _, _, h => by cases h; exact .int _
  | .str _, _, _, h => by cases h; exact .str _
  | .lst ds, _, n, h => by
    cases h with
    | lst h1 h2 => exact .lst (e _ _ h1 fun _ _ z => nomatch z) (DvAll.tr e ds _ (by simpa [nofix] using n) h2)
  | .tup ds, _, n, h => by
    cases h with
    | tup h1 h2 => exact .tup (tups_tr e h1) (DvAll.tr e ds _ (by simpa [nofix] using n) h2)
  | .tpw ds, _, n, h => by
    cases h with
    | tpw h1 h2 => exact .tpw (sqt_tr e h1) (DvAll.tr e ds _ (by simpa [nofix] using n) h2)
  | .dct ds, _, n, h => by
    cases h with
    | dct h1 h2 => exact .dct (e _ _ h1 fun _ _ z => nomatch z) (KvAll.tr e ds _ (by simpa [nofix] using n) h2)
  | .bag, _, _, h => by
    cases h with
    | bag q => exact .bag q
  | .raw _, _, _, h => by cases h; exact .raw
  | .fix _, _, n, _ => by simp [nofix] at n
theorem DvAll.tr (e : Tr H H') : ∀ (ds : List Da) (vs : List V), nofixs ds = true → DvAll K g H vs ds → DvAll K g H' vs ds
  | [], _, _, h => by cases h; exact .nil
  | d :: ds, _, n, h => by
    have n := Bool.and_eq_true_iff.mp (show (nofix d && nofixs ds) = true by simpa [nofixs] using n)
    cases h with
    | cons h1 h2 => exact .cons (Dv.tr e d _ n.1 h1) (DvAll.tr e ds _ n.2 h2)
theorem KvAll.tr (e : Tr H H') : ∀ (ds : List (Key × Da)) (vs : List (Key × V)), nofixk ds = true → KvAll K g H vs ds → KvAll K g H' vs ds
  | [], _, _, h => by cases h; exact .nil
  | (k, d) :: ds, _, n, h => by
    have n := Bool.and_eq_true_iff.mp (show (nofix d && nofixk ds) = true by simpa [nofixk] using n)
    cases h with
    | cons h1 h2 => exact .cons (Dv.tr e d _ n.1 h1) (KvAll.tr e ds _ n.2 h2)
end
/-- what is not hidden and is no list may be put otherwise -/
theorem OkW.swap {W : Addr → Bool} {a : Addr} {o : HO} (k : OkW K g W H) (wa : W a = false) (na : ∀ xs, H a ≠ some (.lst xs)) : OkW K g W (upd H a o) := by
  refine ⟨fun b hb => ?_, k.gW, fun b hb => ?_⟩
  · obtain ⟨x, y, z, c, cs, h1, h2⟩ := k.bag b hb
    obtain ⟨q1, q2⟩ := hid_some h2
    refine ⟨x, y, z, c, cs, ?_, ?_⟩
    · rw [upd_ne (fun z => na _ (z ▸ h1))]; exact h1
    · rw [hid_no q1, upd_ne (fun z => na _ (z ▸ q2))]; exact q2
  · obtain ⟨u, h⟩ := k.al b hb
    refine ⟨u, ?_⟩
    rw [upd_ne (fun z => by rw [z, wa] at hb; cases hb)]
    exact h
end
/-! ### the expression -/
def lockS (i : Nat) (kvs : List (Key × Da)) (j : Nat) (kvs2 : List (Key × Da)) (b : Bool) (k : Nat) : Sl :=
  if k = i then .dat (.fix (frzd kvs)) else if k = j then (if b then .dat (.fix (frzd kvs2)) else .dat (.dct kvs2)) else .no
/-- what is known while the dict of slot i is locked: slot j's may be the same one -/
def lockR (n i : Nat) (kvs : List (Key × Da)) (j : Nat) (kvs2 : List (Key × Da)) (b : Bool) : En := (List.range n).map (lockS i kvs j kvs2 b)
def dLock (i j : Nat) (t : TDE) : TDE := fun r Q => ∃ kvs kvs2, r[i]? = some (.dat (.dct kvs)) ∧ r[j]? = some (.dat (.dct kvs2)) ∧ Grd kvs ∧ Grd kvs2 ∧ ∀ b, t (lockR r.length i kvs j kvs2 b) fun d => nofix d = true ∧ Q d
section
variable {X : Cx} {w : Wd} {e tg : Expr} {te t : TDE} {i j : Nat}
theorem ped_lock (h : ∀ w' : Wd, w'.g = w.g → PEd X w' e t) : PEd X w e (dLock i j t) := by
  have h0 : PE X e (fun σ H Q => ∃ w' : Wd, w'.g = w.g ∧ liE X.K w' t σ H Q) := ⟨fun pins s σ H Q I ⟨w', e, z⟩ => (h w' e).pe.run pins s σ H Q I z⟩
  refine ⟨weE (pe_lock h0) ?_, fun r Q Q' q ⟨kvs, kvs2, h1, h2, h3, h4, z⟩ => ⟨kvs, kvs2, h1, h2, h3, h4, fun b => (h w rfl).mo _ _ _ (fun d y => ⟨y.1, q _ y.2⟩) (z b)⟩⟩
  rintro σ H Q ⟨W, own, r, S, kvs, kvs2, hi, hj, g1, g2, z⟩
  obtain ⟨v, ev, dv⟩ := S.sl i _ hi (fun z => nomatch z)
  obtain ⟨v2, ev2, dv2⟩ := S.sl j _ hj (fun z => nomatch z)
  have dv : Dv X.K w.g (hid W H) v (.dct kvs) := dv
  have dv2 : Dv X.K w.g (hid W H) v2 (.dct kvs2) := dv2
  cases dv with
  | @dct a us _ b1 b2 =>
  cases dv2 with
  | @dct a2 us2 _ c1 c2 =>
  obtain ⟨wa, ha⟩ := hid_some b1
  obtain ⟨wa2, ha2⟩ := hid_some c1
  have G1 := KvG.of b2 g1
  have G2 := KvG.of c2 g2
  refine ⟨a, .dK us, ha, trivial, fun od => ?_⟩
  have ga : w.g ≠ some a := fun z => by have q := S.ok.gW a z; rw [wa] at q; cases q
  have nW : ∀ b, W b = true → b ≠ a := fun b hb z => by rw [z, wa] at hb; cases hb
  have k1 : OkW X.K w.g W (upd H a (.frz od (.dK us))) := S.ok.swap wa fun xs z => by rw [ha] at z; cases z
  have at1 : hid W (upd H a (.frz od (.dK us))) a = some (.frz od (.dK us)) := by rw [hid_no wa, upd_same]
  have S' : Stt X.K ⟨cutAt a w.H0, w.g, w.W0⟩ W own (lockR r.length i kvs j kvs2 (decide (a2 = a))) σ (upd H a (.frz od (.dK us))) := by
    refine ⟨k1, ⟨fun b o n e => ?_, fun b xs n e => ?_⟩, S.w0, S.g0, fun k b hb => ?_, fun k l b h1 h2 => ?_, ?_, fun k d e n => ?_⟩
    · by_cases q : b = a
      · rw [q] at e; cases (cutAt_same.symm.trans e)
      · rw [upd_ne q]
        exact S.base.out b o n ((cutAt_ne q).symm.trans e)
    · have q : b ≠ a := nW b (S.ok.gW b n)
      rw [upd_ne q]
      exact S.base.last b xs n ((cutAt_ne q).symm.trans e)
    · obtain ⟨q1, q2, q3⟩ := S.oW k b hb
      exact ⟨q1, (cutAt_ne (nW b q1)).trans q2, q3⟩
    · obtain ⟨q1, q2⟩ := S.inj k l b h1 h2
      exact ⟨q1, q2.up fun o z => by rw [upd_ne (nW b (S.oW k b h1).1)]; exact z⟩
    · unfold lockR
      rw [List.length_map, List.length_range]
      exact S.len
    · have e' : k < r.length ∧ lockS i kvs j kvs2 (decide (a2 = a)) k = d := by
        unfold lockR at e
        rw [List.getElem?_map] at e
        obtain ⟨x, h1, h2⟩ := Option.map_eq_some_iff.mp e
        obtain ⟨h3, h4⟩ := List.getElem?_eq_some_iff.mp h1
        rw [List.getElem_range] at h4
        rw [List.length_range] at h3
        subst h4
        exact ⟨h3, h2⟩
      obtain ⟨_, rfl⟩ := e'
      unfold lockS at n ⊢
      by_cases q : k = i
      · rw [if_pos q]
        exact ⟨_, q ▸ ev, .fix fun H2 s => ⟨a, od, us, rfl, s a _ at1 (fun _ z => nomatch z) (fun _ z => nomatch z), G1⟩⟩
      · rw [if_neg q] at n ⊢
        by_cases q2 : k = j
        · rw [if_pos q2]
          refine ⟨_, q2 ▸ ev2, ?_⟩
          by_cases q3 : a2 = a
          · subst q3
            rw [decide_eq_true rfl]
            have eu : us2 = us := by rw [ha] at ha2; cases ha2; rfl
            subst eu
            exact .fix fun H2 s => ⟨a2, od, us2, rfl, s a2 _ at1 (fun _ z => nomatch z) (fun _ z => nomatch z), G2⟩
          · rw [decide_eq_false q3]
            exact .dct (by rw [hid_no wa2, upd_ne q3]; exact ha2) G2.all
        · rw [if_neg q2] at n
          exact (n rfl).elim
  refine ⟨⟨cutAt a w.H0, w.g, w.W0⟩, rfl, W, own, _, S', ?_⟩
  refine (h w rfl).mo _ _ _ (fun d ⟨nf, y⟩ v H' e1 k2 d1 => ?_) (z (decide (a2 = a)))
  have la : H' a = some (.frz od (.dK us)) := e1.out a _ ga upd_same
  refine ⟨la, y v _ ⟨fun b o n e => ?_, fun b xs n e => ?_⟩ (k2.swap wa fun xs z => by rw [la] at z; cases z) (Dv.tr (fun b o e n => ?_) d v nf d1)⟩
  · by_cases q : b = a
    · rw [q, ha] at e
      cases e
      rw [q, upd_same]
    · rw [upd_ne q]
      exact e1.out b o n (by rw [upd_ne q]; exact e)
  · have q : b ≠ a := nW b (S.ok.gW b n)
    rw [upd_ne q]
    exact e1.last b xs n (by rw [upd_ne q]; exact e)
  · obtain ⟨q1, q2⟩ := hid_some e
    rw [hid_no q1, upd_ne (fun z => by rw [z, la] at q2; cases q2; exact n _ _ rfl)]
    exact q2
/-! ### a locked dict: walked over, looked up -/
def dItF (t : TDE) : TDI := fun r Q => t r fun d => ∃ kvs, d = .fix (frzd kvs) ∧ Q (kvs.map fun kv => kD kv.1)
theorem KvG.len : ∀ {us : List (Key × V)} {kvs : List (Key × Da)}, KvG us kvs → us.length = kvs.length
  | _, _, .nil => rfl
  | _, _, .int h => by rw [List.length_cons, List.length_cons, h.len]
  | _, _, .str h => by rw [List.length_cons, List.length_cons, h.len]
theorem KvG.at : ∀ {us : List (Key × V)} {kvs : List (Key × Da)} {n : Nat} {k : Key} {v : V}, KvG us kvs → us[n]? = some (k, v) → ∃ d, kvs[n]? = some (k, d)
  | _, _, _, _, _, .nil, e => by cases e
  | _, _, 0, _, _, .int h, e => by cases e; exact ⟨_, rfl⟩
  | _, _, 0, _, _, .str h, e => by cases e; exact ⟨_, rfl⟩
  | _, _, n + 1, _, _, .int h, e => h.at (n := n) e
  | _, _, n + 1, _, _, .str h, e => h.at (n := n) e
theorem kv_dv {K : PySem.W.Frag} {g : Option Addr} {H : Hp} (k : Key) : Dv K g H (kV k) (kD k) := by
  cases k with
  | inl i => exact .int i
  | inr x => exact .str x
theorem pid_frz (h : PEd X w e te) : PId X w tg e (dItF te) := by
  refine ⟨weI (pi_keys h.pe) ?_, fun r Q Q' q z => h.mo _ _ _ (fun d ⟨kvs, e, z⟩ => ⟨kvs, e, q _ z⟩) z⟩
  rintro σ H R ⟨W, own, r, S, z⟩
  refine go1 h S z fun d v H1 e1 k1 d1 p => ?_
  obtain ⟨kvs, rfl, p⟩ := p
  cases d1 with
  | fix f =>
    obtain ⟨a, o, us, rfl, ha, G⟩ := f _ (Sees.sm hid_sub)
    obtain ⟨a', o', us', ea, ha', G'⟩ := f _ (fun _ _ h _ _ => h)
    cases ea
    have eq := (hid_some ha').2
    rw [ha] at eq
    cases eq
    refine ⟨a, o, rfl, .inl ⟨us, ha, p _ H1 e1 k1 fun n H' s => ?_⟩⟩
    have la : H' a = some (.frz o (.dK us)) := s _ _ ha'
    rw [List.length_map, ← G.len]
    refine ⟨fun hn => ⟨la, hn⟩, fun hn => ⟨la, hn⟩, fun x H'' hn y => ?_⟩
    obtain ⟨e, k, v, hk, rfl⟩ := y
    subst e
    obtain ⟨d, hd⟩ := G.at hk
    refine ⟨fun _ _ h => h, kD k, ?_, fun Z _ _ => kv_dv k⟩
    rw [List.getElem?_map, hd]
    rfl
/-- d[k], the dict locked or not -/
def dgetF : DD := fun x y Q => ∃ kvs k d, (x = .dct kvs ∨ x = .fix (frzd kvs)) ∧ y = kD k ∧ valD kvs k = some d ∧ Q d
end
section
variable {X : Cx} {w : Wd} {a e : Expr} {te ty : TDE} {pos : Pos}
theorem ped_dgetF {k : Nat} (hr : Room k X.A) (ha : PEd X w a te) (hb : PEd X w e ty) (hs : NoSl e := by exact fun _ _ => rfl) : PEd X w (.Subscript a e pos) (dOp dgetF te ty) := by
  refine ⟨weE (pe_dget (hu_of hr) ha.pe hb.pe hs) ?_, dOp_mo (fun x y Q Q' q ⟨kvs, k, d, a, b, c, z⟩ => ⟨kvs, k, d, a, b, c, q _ z⟩) ha hb⟩
  rintro σ H Q ⟨W, own, r, S, h⟩
  refine go2 ha hb S h fun x y v u H1 e1 k1 d1 d2 p => ?_
  obtain ⟨kvs, k, d, ex, rfl, hv, z⟩ := p
  rw [kD_v d2]
  rcases ex with rfl | rfl
  · cases d1 with
    | @dct c us _ a1 a2 =>
      obtain ⟨v', h1, h2⟩ := a2.val hv
      exact ⟨c, v', rfl, by rw [← h1]; exact DGet.k (hid_some a1).2, (z.then e1).now k1 h2⟩
  · cases d1 with
    | fix f =>
      obtain ⟨c, o, us, rfl, hc, G⟩ := f _ (Sees.sm hid_sub)
      obtain ⟨v', h1, h2⟩ := (G.all (K := X.K) (g := w.g) (H := hid W H1)).val hv
      exact ⟨c, v', rfl, .inl ⟨us, k, .inr ⟨o, hc⟩, rfl, h1.symm⟩, (z.then e1).now k1 h2⟩
end
end Pd
/-! dict(zip(a tuple, a list)): the pairs, as what fills a dict. -/
namespace Pd
open PySem
section
variable {prog : Program} {w : World} {A : Around} {E : Value → Shared → Prop} {s : Shared} {z TI TO T i1 i2 : Addr} {fp1 fp2 : List Addr} {n1 n2 i : Nat} {P1 P2 : Nat → Value → Prop} {St1 St2 : Nat → Heap → Prop} {f : Bool} {oT : Obj}
/-- one more pair of two that draw, while the pair before is still held -/
theorem held_item {Q : Value → Shared → Prop} (S : ZipSep2 z TI TO i1 i2 fp1 fp2) (D1 : Draws prog w A i1 fp1 n1 P1 St1) (D2 : Draws prog w A i2 fp2 n2 P2 St2)
    (hz : IsZipHeld s.heap z TI TO T f) (hT : s.heap.get? T = some oT) (hTI : IsPair s.heap TI (.ref i1) (.ref i2)) (a1 : St1 i s.heap) (a2 : St2 i s.heap) (l1 : i < n1) (l2 : i < n2)
    (hQ : ∀ x y h' tk, P1 i x → P2 i y → IsZipHeld h' z TI TO T true → St1 (i + 1) h' → St2 (i + 1) h' → IsPair h' s.heap.objs.size x y →
      (∀ c o, c ≠ z → c ≠ i1 → c ≠ i2 → s.heap.get? c = some o → h'.get? c = some o) → Q (.ref s.heap.objs.size) { s with heap := h', toks := tk }) :
    wpAny (model prog w) A (Builtin.«zip.__next__» ⟨[.ref z], []⟩) (fun fin t => ∃ v, fin = .done (.ret v) ∧ Q v t) E s := by
  obtain ⟨hp, gn, dr, tk0, os⟩ := s
  show wpAny (model prog w) A (field (.ref z) 2 >>= _) _ E _
  refine wpAny_bind (wpAny_field hz rfl (x := .bool false) rfl ?_)
  show wpAny (model prog w) A (field (.ref z) 3 >>= _) _ E _
  refine wpAny_bind (wpAny_field hz rfl (x := .ref TI) rfl (wpAny_bind (wpAny_seqItems hTI rfl ?_)))
  show wpAny (model prog w) A (Builtin.SmallTypes.ownedTupleIsFree (.ref z) >>= _) _ E _
  refine wpAny_bind (wpAny_tupleHeld_zip hz hT fun g1 hz1 k1 => ?_)
  replace k1 : Heap.SameBut z hp g1 := k1
  simp only [Bool.false_eq_true, if_false]
  refine wpAny_bind ?_
  rw [← Array.forIn_toList]
  simp only [List.forIn_cons, List.forIn_nil]
  refine wpAny_bind (wpAny_bind (wpAny_holding (wpAny_bind (D1.item i ⟨g1, gn, dr, tk0, os⟩ _ _ l1 (D1.over a1 k1 S.zf1) fun x g2 tk1 px b1 k2 => wpAny_pure (wpAny_pure ?_)))))
  replace k2 : Heap.SameBut i1 g1 g2 := k2
  refine wpAny_bind (wpAny_bind (wpAny_holding (wpAny_bind (D2.item i ⟨g2, gn, dr, tk1, os⟩ _ _ l2 (D2.over (D2.over a2 k1 S.zf2) k2 S.sep1_2) fun y g3 tk2 py b2 k3 => wpAny_pure (wpAny_pure (wpAny_pure ?_))))))
  replace k3 : Heap.SameBut i2 g2 g3 := k3
  show wpAny _ _ (newTuple [x, y] >>= _) _ _ _
  refine wpAny_bind (wpAny_newTuple (wpAny_pure ⟨_, rfl, ?_⟩))
  have sz : g3.objs.size = hp.objs.size := by rw [k3.1, k2.1, k1.1]
  have up : ∀ c o, g3.get? c = some o → (g3.push { cls := .type "tuple", data := .seq #[x, y] }).get? c = some o := fun c o e => Heap.get?_push_of_some _ e
  have r := hQ x y (g3.push { cls := .type "tuple", data := .seq #[x, y] }) tk2 px py (up _ _ (k3.extBut _ _ S.zi2 (k2.extBut _ _ S.zi1 hz1))) (D1.frame _ _ _ (D1.over b1 k3 S.sep2_1) fun b _ o e => up b o e) (D2.frame _ _ _ b2 fun b _ o e => up b o e)
    (by show Heap.get? _ hp.objs.size = _; rw [← sz]; exact Heap.get?_push_size _ rfl) fun c o c1 c2 c3 e => up c o (k3.extBut _ _ c3 (k2.extBut _ _ c2 (k1.extBut _ _ c1 e)))
  show Q (.ref g3.objs.size) _
  rw [sz]
  exact r
theorem held_end {Q : PySem.Fin → Shared → Prop} (S : ZipSep2 z TI TO i1 i2 fp1 fp2) (D1 : Draws prog w A i1 fp1 n1 P1 St1) (D2 : Draws prog w A i2 fp2 n2 P2 St2)
    (hz : IsZipHeld s.heap z TI TO T f) (hT : s.heap.get? T = some oT) (hTI : IsPair s.heap TI (.ref i1) (.ref i2)) (a1 : St1 i s.heap) (a2 : St2 i s.heap) (l1 : i ≤ n1) (l2 : i ≤ n2) (hend : i = n1 ∨ i = n2)
    (hE : ∀ h' tk e, (∀ c o, c ≠ z → c ≠ i1 → c ≠ i2 → s.heap.get? c = some o → h'.get? c = some o) → (∃ o, h'.get? e = some o ∧ o.cls = .type "StopIteration") → E (.ref e) { s with heap := h', toks := tk }) :
    wpAny (model prog w) A (Builtin.«zip.__next__» ⟨[.ref z], []⟩) Q E s := by
  obtain ⟨hp, gn, dr, tk0, os⟩ := s
  show wpAny (model prog w) A (field (.ref z) 2 >>= _) _ E _
  refine wpAny_bind (wpAny_field hz rfl (x := .bool false) rfl ?_)
  show wpAny (model prog w) A (field (.ref z) 3 >>= _) _ E _
  refine wpAny_bind (wpAny_field hz rfl (x := .ref TI) rfl (wpAny_bind (wpAny_seqItems hTI rfl ?_)))
  show wpAny (model prog w) A (Builtin.SmallTypes.ownedTupleIsFree (.ref z) >>= _) _ E _
  refine wpAny_bind (wpAny_tupleHeld_zip hz hT fun g1 hz1 k1 => ?_)
  replace k1 : Heap.SameBut z hp g1 := k1
  simp only [Bool.false_eq_true, if_false]
  refine wpAny_bind ?_
  rw [← Array.forIn_toList]
  simp only [List.forIn_cons, List.forIn_nil]
  by_cases lt : i < n1
  · have e2 : i = n2 := hend.resolve_left (Nat.ne_of_lt lt)
    refine wpAny_bind (wpAny_bind (wpAny_holding (wpAny_bind (D1.item i ⟨g1, gn, dr, tk0, os⟩ _ _ lt (D1.over a1 k1 S.zf1) fun x g2 tk1 px b1 k2 => wpAny_pure (wpAny_pure ?_)))))
    replace k2 : Heap.SameBut i1 g1 g2 := k2
    refine wpAny_bind (wpAny_bind (wpAny_holding (wpAny_bind (D2.done ⟨g2, gn, dr, tk1, os⟩ _ _ (e2 ▸ D2.over (D2.over a2 k1 S.zf2) k2 S.sep1_2) fun g3 e k3 he => ?_))))
    exact hE g3 tk1 e (fun c o c1 c2 c3 z => k3 c o c3 (k2.extBut c o c2 (k1.extBut c o c1 z))) he
  · have e1 : i = n1 := Nat.le_antisymm l1 (Nat.le_of_not_lt lt)
    refine wpAny_bind (wpAny_bind (wpAny_holding (wpAny_bind (D1.done ⟨g1, gn, dr, tk0, os⟩ _ _ (e1 ▸ D1.over a1 k1 S.zf1) fun g2 e k2 he => ?_))))
    exact hE g2 tk0 e (fun c o c1 c2 _ z => k2 c o c2 (k1.extBut c o c1 z)) he
theorem held_next {Q : Option Value → Shared → Prop} (S : ZipSep2 z TI TO i1 i2 fp1 fp2) (D1 : Draws prog w A.in1 i1 fp1 n1 P1 St1) (D2 : Draws prog w A.in1 i2 fp2 n2 P2 St2)
    (hz : IsZipHeld s.heap z TI TO T f) (hT : s.heap.get? T = some oT) (hTI : IsPair s.heap TI (.ref i1) (.ref i2)) (a1 : St1 i s.heap) (a2 : St2 i s.heap) (l1 : i < n1) (l2 : i < n2)
    (hQ : ∀ x y h' tk, P1 i x → P2 i y → IsZipHeld h' z TI TO T true → St1 (i + 1) h' → St2 (i + 1) h' → IsPair h' s.heap.objs.size x y →
      (∀ c o, c ≠ z → c ≠ i1 → c ≠ i2 → s.heap.get? c = some o → h'.get? c = some o) → Q (some (.ref s.heap.objs.size)) { s with heap := h', toks := tk }) : wpAny (model prog w) A (pyNext (.ref z)) Q E s := by
  have ty : s.TypeIs (.ref z) "zip" := ⟨_, hz, rfl⟩
  have run := held_item (E := fun _ _ => False) (Q := fun v t => Q (some v) t) S D1 D2 hz hT hTI a1 a2 l1 l2 hQ
  delta pyNext
  refine wpAny_bind (wpAny_attempt (wpAny_callSpecial?_slot (name := Str.ofString "__next__") ty F.slot_zip_next (wpAny_call_entry F.slot_zip_next ty F.entry_zip_next ?_ (F.args_zip_next_1 _))))
  exact wpAny_mono run (fun fin t ⟨v, e, q⟩ => ⟨v, e, wpAny_pure q⟩) fun _ _ e => e.elim
theorem held_stop {Q : Option Value → Shared → Prop} (S : ZipSep2 z TI TO i1 i2 fp1 fp2) (D1 : Draws prog w A.in1 i1 fp1 n1 P1 St1) (D2 : Draws prog w A.in1 i2 fp2 n2 P2 St2)
    (hz : IsZipHeld s.heap z TI TO T f) (hT : s.heap.get? T = some oT) (hTI : IsPair s.heap TI (.ref i1) (.ref i2)) (a1 : St1 i s.heap) (a2 : St2 i s.heap) (l1 : i ≤ n1) (l2 : i ≤ n2) (hend : i = n1 ∨ i = n2)
    (hQ : ∀ h' tk, (∀ c o, c ≠ z → c ≠ i1 → c ≠ i2 → s.heap.get? c = some o → h'.get? c = some o) → Q none { s with heap := h', toks := tk }) : wpAny (model prog w) A (pyNext (.ref z)) Q E s := by
  have ty : s.TypeIs (.ref z) "zip" := ⟨_, hz, rfl⟩
  delta pyNext
  refine wpAny_bind (wpAny_attempt (wpAny_callSpecial?_slot (name := Str.ofString "__next__") ty F.slot_zip_next (wpAny_call_entry F.slot_zip_next ty F.entry_zip_next ?_ (F.args_zip_next_1 _))))
  refine held_end S D1 D2 hz hT hTI a1 a2 l1 l2 hend fun h' tk e hk ⟨o, ho, hc⟩ => ?_
  exact wpAny_bind (wpAny_isInstance (T := "StopIteration") (b := true) ⟨o, ho, hc⟩ isSubtype_stop (wpAny_pure (hQ h' tk hk)))
end
/-- a new zip of the tuple at l1 and the list at l2 -/
structure ZOk (z TI TO i1 i2 l1 l2 : Addr) (xs ys : Array Value) (h : Heap) : Prop where
  z : IsZip h z TI TO .none
  ti : IsPair h TI (.ref i1) (.ref i2)
  to : ∃ a b, IsPair h TO a b
  one : h.IsTupleIter i1 l1 0 ∧ h.IsTuple l1 xs
  two : h.IsListIter i2 l2 0 ∧ h.IsList l2 ys
theorem zipTL {prog : Program} {w : World} {z TI TO i1 i2 l1 l2 : Addr} (S : ZipSep2 z TI TO i1 i2 [i1, l1] [i2, l2]) (n1 : l1 ≠ i1) (n2 : l2 ≠ i2) (xs ys : Array Value) :
    PairArg prog w "zip" z [z, TI, TO, i1, i2, l1, l2] [z, TO, i1, i2] (min xs.size ys.size) (fun i k v => xs[i]? = some k ∧ ys[i]? = some v) (ZOk z TI TO i1 i2 l1 l2 xs ys) where
  type := fun s k => ⟨_, k.z, rfl⟩
  notDict := by decide
  keep := fun h h' k up => ⟨up _ _ k.z, up _ _ k.ti, let ⟨a, b, e⟩ := k.to; ⟨a, b, up _ _ e⟩, ⟨k.one.1.at fun o e => up _ o e, k.one.2.at fun o e => up _ o e⟩, ⟨k.two.1.at fun o e => up _ o e, k.two.2.at fun o e => up _ o e⟩⟩
  there := fun h k b hb => by
    obtain ⟨_, _, h0⟩ := k.to
    obtain ⟨⟨o1, h1, _⟩, ⟨o2, h2, _⟩⟩ := k.one
    obtain ⟨⟨o3, h3, _⟩, ⟨o4, h4, _⟩⟩ := k.two
    simp only [List.mem_cons, List.not_mem_nil, or_false] at hb
    rcases hb with e | e | e | e | e | e | e <;> subst e
    · exact ⟨_, k.z⟩
    · exact ⟨_, k.ti⟩
    · exact ⟨_, h0⟩
    · exact ⟨_, h1⟩
    · exact ⟨_, h3⟩
    · exact ⟨_, h2⟩
    · exact ⟨_, h4⟩
  sub := fun b hb => by
    simp only [List.mem_cons, List.not_mem_nil, or_false] at hb ⊢
    rcases hb with e | e | e | e <;> simp [e]
  noKeys := fun A s Q E hA k h => getAttrOr_miss_zip k.z rfl rfl rfl zip_no_keys (by decide +kernel) hA h
  iter := fun A s d Q E hA k hd off h => by
    simp only [List.mem_cons, List.not_mem_nil, or_false, not_or] at off
    obtain ⟨q1, q2, q3, q4, q5, q6, q7⟩ := off
    have D1 := Draws.tuple (prog := prog) (w := w) (A := A.in1) hA i1 l1 n1 xs
    have D2 := Draws.list (prog := prog) (w := w) (A := A.in1) hA i2 l2 n2 ys
    refine wpAny_pyIter_zip k.z (h z [z, TO, i1, i2] (fun i h => IsPair h TI (.ref i1) (.ref i2) ∧ (h.IsTupleIter i1 l1 i ∧ h.IsTuple l1 xs) ∧ (h.IsListIter i2 l2 i ∧ h.IsList l2 ys) ∧
      ((IsZip h z TI TO .none ∧ ∃ a b, IsPair h TO a b) ∨ ∃ T f oT, IsZipHeld h z TI TO T f ∧ h.get? T = some oT ∧ T ≠ z ∧ T ≠ i1 ∧ T ≠ i2 ∧ T ≠ d)) s.heap s.toks ?_ ⟨k.ti, k.one, k.two, .inl ⟨k.z, k.to⟩⟩ (fun _ _ e => e) fun b hb => .inl hb)
    refine { off := fun m => ?_, frame := fun i h1 h2 st up => ?_, item := fun i s1 Q1 E1 hi st hds hQ => ?_, done := fun s1 Q1 E1 st hQ => ?_ }
    · simp only [List.mem_cons, List.not_mem_nil, or_false] at m
      rcases m with e | e | e | e
      · exact q1 e
      · exact q3 e
      · exact q4 e
      · exact q5 e
    · obtain ⟨a, b, c, e⟩ := st
      have f1 := D1.frame i h1 h2 b fun b hb o e => up b o (fun z => by subst z; simp only [List.mem_cons, List.not_mem_nil, or_false] at hb; exact hb.elim q4 q6) e
      have f2 := D2.frame i h1 h2 c fun b hb o e => up b o (fun z => by subst z; simp only [List.mem_cons, List.not_mem_nil, or_false] at hb; exact hb.elim q5 q7) e
      refine ⟨up _ _ (Ne.symm q2) a, f1, f2, ?_⟩
      rcases e with ⟨e1, x, y, e2⟩ | ⟨T, f, oT, e1, e2, r1, r2, r3, r4⟩
      · exact .inl ⟨up _ _ (Ne.symm q1) e1, x, y, up _ _ (Ne.symm q3) e2⟩
      · exact .inr ⟨T, f, oT, up _ _ (Ne.symm q1) e1, up _ _ r4 e2, r1, r2, r3, r4⟩
    · obtain ⟨a, b, c, e⟩ := st
      have m1 : i < xs.size := Nat.lt_of_lt_of_le hi (Nat.min_le_left ..)
      have m2 : i < ys.size := Nat.lt_of_lt_of_le hi (Nat.min_le_right ..)
      rcases e with ⟨e1, x, y, e2⟩ | ⟨T, f, oT, e1, e2, r1, r2, r3, r4⟩
      · have p1 : s1.heap.objs.size ≠ z := Nat.ne_of_gt (Heap.lt_size e1)
        have p2 : s1.heap.objs.size ≠ i1 := by obtain ⟨o, ho, _⟩ := b.1; exact Nat.ne_of_gt (Heap.lt_size ho)
        have p3 : s1.heap.objs.size ≠ i2 := by obtain ⟨o, ho, _⟩ := c.1; exact Nat.ne_of_gt (Heap.lt_size ho)
        refine wpAny_pyNext_zipD2_item S D1 D2 e1 a e2 b c m1 m2 fun u v h' tk hu hv z1 z2 z3 z4 z5 _ up => ?_
        exact hQ _ u v h' tk ⟨hu, hv⟩ (.inl ⟨_, z5, rfl, _, rfl⟩) ⟨up _ _ S.TIz S.TITO S.TIi1 S.TIi2 a, z3, z4, .inr ⟨_, false, _, z1, z5, p1, p2, p3, Nat.ne_of_gt hds⟩⟩
          fun c o hc e => up c o (fun z => hc (by simp [z])) (fun z => hc (by simp [z])) (fun z => hc (by simp [z])) (fun z => hc (by simp [z])) e
      · refine held_next S D1 D2 e1 e2 a b c m1 m2 fun u v h' tk hu hv z1 z3 z4 z5 up => ?_
        exact hQ _ u v h' tk ⟨hu, hv⟩ (.inl ⟨_, z5, rfl, _, rfl⟩) ⟨up _ _ S.TIz S.TIi1 S.TIi2 a, z3, z4, .inr ⟨T, true, oT, z1, up _ _ r1 r2 r3 e2, r1, r2, r3, r4⟩⟩
          fun c o hc e => up c o (fun z => hc (by simp [z])) (fun z => hc (by simp [z])) (fun z => hc (by simp [z])) e
    · obtain ⟨a, b, c, e⟩ := st
      have m : min xs.size ys.size = xs.size ∨ min xs.size ys.size = ys.size := by omega
      rcases e with ⟨e1, x, y, e2⟩ | ⟨T, f, oT, e1, e2, r1, r2, r3, r4⟩
      · exact wpAny_pyNext_zipD2_end S D1 D2 e1 a e2 b c (Nat.min_le_left ..) (Nat.min_le_right ..) m fun h' tk up => hQ h' tk fun c o hc e => up c o (fun z => hc (by simp [z])) (fun z => hc (by simp [z])) (fun z => hc (by simp [z])) (fun z => hc (by simp [z])) e
      · exact held_stop S D1 D2 e1 e2 a b c (Nat.min_le_left ..) (Nat.min_le_right ..) m fun h' tk up => hQ h' tk fun c o hc e => up c o (fun z => hc (by simp [z])) (fun z => hc (by simp [z])) (fun z => hc (by simp [z])) e
end Pd
/-! dict(zip(a tuple of numbers and texts, a list)): the rule. -/
namespace Pd
open PySem PySem.Spec PySem.Calls PyProof.Rows L2
/-! ### zip of a tuple and a list -/
abbrev mz1 (h : Heap) (l1 : Addr) : Heap := h.push { cls := .type "tuple_iterator", data := .fields #[.ref l1, .int 0 0] }
abbrev mz2 (h : Heap) (l1 l2 : Addr) : Heap := (mz1 h l1).push { cls := .type "list_iterator", data := .fields #[.ref l2, .int 0 0] }
abbrev mz3 (h : Heap) (l1 l2 : Addr) : Heap := (mz2 h l1 l2).push { cls := .type "tuple", data := .seq #[.ref h.objs.size, .ref (mz1 h l1).objs.size] }
abbrev mz4 (h : Heap) (l1 l2 : Addr) : Heap := (mz3 h l1 l2).push { cls := .type "tuple", data := .seq #[.none, .none] }
abbrev mz5 (h : Heap) (l1 l2 : Addr) : Heap := (mz4 h l1 l2).push { cls := .type "zip", data := .fields #[.none, .bool false, .bool false, .ref (mz2 h l1 l2).objs.size, .ref (mz3 h l1 l2).objs.size] }
theorem zipNew (l1 l2 : Addr) (xs ys : Array Value) : Meets (Builtin.«zip.__new__» ⟨[.type "zip", .ref l1, .ref l2], []⟩) (fun _ R s => s.heap.IsTuple l1 xs ∧ s.heap.IsList l2 ys ∧ R (.ok (.ret (.ref (mz4 s.heap l1 l2).objs.size))) { s with heap := mz5 s.heap l1 l2 }) :=
  .of_wp fun prog w A R s h => by
    obtain ⟨hp, gn, dr, tk, os⟩ := s
    obtain ⟨a1, a2, r⟩ := h
    have sub := sub_zip
    have b1 : Heap.IsTuple (Shared.heap ⟨hp, gn, dr, tk, os⟩) l1 xs := a1
    have b2 : Heap.IsList (Shared.heap ⟨mz1 hp l1, gn, dr, tk, os⟩) l2 ys := Heap.IsList.push a2 _
    wp_walk using wpAny_pyIter_tuple b1, wpAny_pyIter_list b2
    exact ⟨_, rfl, r⟩
theorem zip_sep {n l1 l2 : Addr} (a : l1 < n) (b : l2 < n) : ZipSep2 (n + 4) (n + 2) (n + 3) n (n + 1) [n, l1] [n + 1, l2] := by
  have no : ∀ {x y v : Addr}, x ≠ y → x ≠ v → x ∉ [y, v] := by intro x y v a b; simp [a, b]
  have a' : ∀ k : Nat, l1 < n + k := fun k => Nat.lt_of_lt_of_le a (Nat.le_add_right n k)
  have b' : ∀ k : Nat, l2 < n + k := fun k => Nat.lt_of_lt_of_le b (Nat.le_add_right n k)
  exact ⟨Nat.ne_of_lt (by omega), Nat.ne_of_lt (by omega), Nat.ne_of_lt (by omega), Nat.ne_of_gt (by omega), List.mem_cons_self, no (Nat.ne_of_gt (by omega)) (Nat.ne_of_gt (a' 4)), no (Nat.ne_of_gt (by omega)) (Nat.ne_of_gt (a' 3)), Nat.ne_of_gt (by omega), List.mem_cons_self, no (Nat.ne_of_gt (by omega)) (Nat.ne_of_gt (b' 4)), no (Nat.ne_of_gt (by omega)) (Nat.ne_of_gt (b' 3)), no (Nat.ne_of_lt (by omega)) (Nat.ne_of_gt (b' 0)), no (Nat.ne_of_gt (by omega)) (Nat.ne_of_gt (a' 1))⟩
section
variable {prog : Program} {w : World} {A : Around} {E : Value → Shared → Prop} {s : Shared}
theorem call_zipTL {l1 l2 : Addr} {xs ys : Array Value} {Q : Value → Shared → Prop} (h1 : s.heap.IsTuple l1 xs) (h2 : s.heap.IsList l2 ys)
    (h : ∀ h' n, n = s.heap.objs.size → ZOk (n + 4) (n + 2) (n + 3) n (n + 1) l1 l2 xs ys h' → (∀ c o, s.heap.get? c = some o → h'.get? c = some o) → n ≤ h'.objs.size → Q (.ref (n + 4)) { s with heap := h' }) :
    wpAny (model prog w) A (call (.type "zip") [.ref l1, .ref l2]) Q E s := by
  refine callType_new F.called_zip (by decide) (F.typeCall_zip_2 _ _) (F.newCall_zip_2 _ _) (fun o => F.args_object_init_3 o _ _) F.entry_zip_new (zipNew l1 l2 xs ys) ⟨h1, h2, ?_⟩
  have s1 : (mz1 s.heap l1).objs.size = s.heap.objs.size + 1 := Heap.size_push ..
  have s2 : (mz2 s.heap l1 l2).objs.size = s.heap.objs.size + 2 := by rw [Heap.size_push, s1]
  have s3 : (mz3 s.heap l1 l2).objs.size = s.heap.objs.size + 3 := by rw [Heap.size_push, s2]
  have s4 : (mz4 s.heap l1 l2).objs.size = s.heap.objs.size + 4 := by rw [Heap.size_push, s3]
  have s5 : (mz5 s.heap l1 l2).objs.size = s.heap.objs.size + 5 := by rw [Heap.size_push, s4]
  have up : ∀ {g : Heap} {o' : Obj} {c : Addr} {o : Obj}, g.get? c = some o → (g.push o').get? c = some o := fun e => Heap.get?_push_of_some _ e
  have o5 : (mz5 s.heap l1 l2).get? (mz4 s.heap l1 l2).objs.size = some _ := Heap.get?_push_size _ rfl
  have o4 : (mz5 s.heap l1 l2).get? (mz3 s.heap l1 l2).objs.size = some _ := up (Heap.get?_push_size _ rfl)
  have o3 : (mz5 s.heap l1 l2).get? (mz2 s.heap l1 l2).objs.size = some _ := up (up (Heap.get?_push_size _ rfl))
  have o2 : (mz5 s.heap l1 l2).get? (mz1 s.heap l1).objs.size = some _ := up (up (up (Heap.get?_push_size _ rfl)))
  have o1 : (mz5 s.heap l1 l2).get? s.heap.objs.size = some _ := up (up (up (up (Heap.get?_push_size _ rfl))))
  rw [s2, s3, s4] at o5
  rw [s3] at o4
  rw [s1, s2] at o3
  rw [s1] at o2
  have old : ∀ c o, s.heap.get? c = some o → (mz5 s.heap l1 l2).get? c = some o := fun c o e => up (up (up (up (up e))))
  show Shared.TypeIs _ (.ref (mz4 s.heap l1 l2).objs.size) "zip" ∧ Q (.ref (mz4 s.heap l1 l2).objs.size) _
  rw [s4]
  exact ⟨⟨_, o5, rfl⟩, h _ _ rfl ⟨o5, o3, ⟨_, _, o4⟩, ⟨⟨_, o1, rfl, rfl⟩, h1.at fun o e => old _ o e⟩, ⟨⟨_, o2, rfl, rfl⟩, h2.at fun o e => old _ o e⟩⟩ old (by rw [s5]; exact Nat.le_add_right _ _)⟩
end
/-! ### the pairs, as keys and values -/
theorem vals_back : ∀ {xs : List V} {us : List Value} {i : Nat} {u : Value}, Vals xs us → us[i]? = some u → ∃ x, xs[i]? = some x ∧ RelV x u
  | _, _, _, _, .nil, e => by cases e
  | _, _, 0, _, .cons a _, e => by cases e; exact ⟨_, rfl, a⟩
  | _, _, i + 1, _, .cons _ t, e => vals_back (i := i) t e
theorem kv_zip : ∀ {ks : List Key} {ys : List V} {us : List Value}, Vals ys us → KV (ks.zip ys) (ks.zip us)
  | [], _, _, _ => .nil
  | _ :: _, [], _, r => by cases r; exact .nil
  | k :: ks, y :: ys, _, r => by
    cases r with
    | cons a t => exact .cons ⟨rfl, a⟩ (kv_zip t)
def tDZ (K : PySem.W.Frag) (ta : TA) : TE := fun σ H Q => ta σ H fun vs H1 => ∃ (l1 l2 : Addr) (ks : List Key) (ys : List V), vs = [.ref l1, .ref l2] ∧ SqT K H1 l1 (ks.map kV) ∧ SqL K H1 l2 ys ∧ ∀ q, H1 q = none → Q (.ref q) (upd H1 q (.dK (mergeK [] (ks.zip ys))))
section
variable {X : Cx} {e f : Expr} {ta : TA} {p p2 pos pos2 : Pos}
theorem pe_dictZip (hc : X.calm = true) (hg : Gl X "dict") (hm : X.mg "dict" = none) (hg2 : Gl X "zip") (hm2 : X.mg "zip" = none) (ha : PA X [e, f] ta)
    (hz : starEach [Expr.Call (.Name "zip" p2) [e, f] [] pos2] X.env = (false, eval (.Call (.Name "zip" p2) [e, f] [] pos2) X.env) :: starEach [] X.env := by rfl)
    (hs : starEach [e, f] X.env = (false, eval e X.env) :: starEach [f] X.env := by rfl) (hpl : (backTo pos2 (starEach [f] X.env)).any (·.1) = false := by rfl) :
    PE X (.Call (.Name "dict" p) [.Call (.Name "zip" p2) [e, f] [] pos2] [] pos) (tDZ X.K ta) := by
  refine ⟨fun pins s σ H Q I h => ?_⟩
  refine wpAny_Call_Name_kw (ld_blt I hg hm PyProof.Rows.boot_dict (callWith_type1 ?_ hz rfl))
  rw [hz]
  show wpAny _ _ (spliced ((false, eval (.Call (.Name "zip" p2) [e, f] [] pos2) X.env) :: [])) _ _ s
  refine Calls.spliced_cons (wpAny_Call_Name_kw (ld_blt I hg2 hm2 PyProof.Rows.boot_zip (callWith_type1 (thn (ha.run pos2 pins s σ H _ I h) fun us s1 ⟨vs, H1, I1, r1, q1⟩ => ?_) hs hpl)))
  obtain ⟨l1, l2, ks, ys, rfl, hq1, hq2, q⟩ := q1
  obtain ⟨u1, u2, rfl, a1, a2⟩ := vals2 r1
  cases a1
  cases a2
  obtain ⟨its1, rv1, t1, z1⟩ := I1.tuple hq1
  obtain ⟨its2, rv2, t2, z2⟩ := I1.list hq2
  have lt1 : l1 < s1.heap.objs.size := by obtain ⟨o, ho, _⟩ := (show s1.heap.IsTuple l1 its1.toArray from t1); exact Heap.lt_size ho
  have lt2 : l2 < s1.heap.objs.size := t2.lt
  refine call_zipTL (show s1.heap.IsTuple l1 its1.toArray from t1) t2.isList fun h' n en ok old sz => Calls.spliced_nil ?_
  subst en
  have P := zipTL (prog := X.prog) (w := X.w) (zip_sep lt1 lt2) (Nat.ne_of_lt lt1) (Nat.ne_of_lt (Nat.lt_succ_of_lt lt2)) its1.toArray its2.toArray
  have len1 : its1.length = ks.length := by rw [← rv1.length, List.length_map]
  have lz : (ks.zip its2).length = min its1.toArray.size its2.toArray.size := by rw [List.length_zip, List.size_toArray, List.size_toArray, len1]
  have hz1 : its1.length ≤ sizeLine := by rw [len1]; rw [List.length_map] at z1; exact z1
  refine PySem.call_dict_pairs (knd := mixKind X.prog X.w) (kvs := ks.zip its2) (s := { s1 with heap := h' }) P (I.ok.hd hc) ok ⟨lz, fun i key v r => ?_⟩ (Nat.le_trans (Nat.min_le_left ..) (by rw [List.size_toArray]; exact hz1)) fun g tk hd keep => ?_
  · obtain ⟨r1, r2⟩ := r
    have r1 : its1[i]? = some key := by simpa using r1
    have r2 : its2[i]? = some v := by simpa using r2
    obtain ⟨x, hx, rx⟩ := vals_back rv1 r1
    rw [List.getElem?_map] at hx
    obtain ⟨k, hk, rfl⟩ := Option.map_eq_some_iff.mp hx
    exact ⟨k, List.getElem?_zip_eq_some.mpr ⟨hk, r2⟩, kV_is (P := X.prog) (w := X.w) rx⟩
  · have big : (h'.objs.size == sysModules) = false := beq_eq_false_iff_ne.mpr (Nat.ne_of_gt (Nat.lt_of_lt_of_le I1.big sz))
    have ml : (mergeK [] (ks.zip ys)).length ≤ sizeLine := by
      refine Nat.le_trans (length_mergeK (ks.zip ys) []) ?_
      rw [List.length_nil, Nat.zero_add, List.length_zip]
      exact Nat.le_trans (Nat.min_le_left ..) (by rw [← len1]; exact hz1)
    have up : ∀ b o, s1.heap.get? b = some o → g.get? b = some o := fun b o e => keep b o (fun m => by
      have lb := Heap.lt_size e
      simp only [List.mem_cons, List.not_mem_nil, or_false] at m
      rcases m with z | z | z | z <;> rw [z] at lb <;> exact absurd lb (Nat.not_lt_of_le (by omega))) (old b o e)
    exact ⟨.ref h'.objs.size, upd H1 h'.objs.size (.dK (mergeK [] (ks.zip ys))), I1.laid (t' := tk) up sz (show ObjOk X.prog X.w _ _ _ (.dK _) from ⟨ml, big, merged [] (ks.zip its2), KV.merge (kv_zip rv2) .nil, hd⟩), rfl, q _ (I1.hok.fresh sz)⟩
end
end Pd
/-! dict(zip(a tuple of numbers and texts, a list)), as data. -/
namespace Pd
open PySem PySem.Spec PySem.Calls PyProof.Rows L2
section
variable {K : PySem.W.Frag} {g : Option Addr} {H : Hp}
theorem DvAll.keys : ∀ {ks : List Key} {xs : List V}, DvAll K g H xs (ks.map kD) → xs = ks.map kV
  | [], _, h => by cases h; rfl
  | k :: ks, _, h => by
    cases h with
    | cons a t => rw [kD_v a, DvAll.keys t, List.map_cons]
theorem KvAll.zip : ∀ {ks : List Key} {ys : List V} {ds : List Da}, DvAll K g H ys ds → KvAll K g H (ks.zip ys) (ks.zip ds)
  | [], _, _, _ => .nil
  | _ :: _, _, _, .nil => .nil
  | _ :: _, _, _, .cons a t => .cons a (KvAll.zip t)
end
/-- dict(zip(..)) of data -/
def dictZ : DB := fun ds Q => ∃ (d : Da) (ks : List Key) (ys : List Da), ds = [d, .lst ys] ∧ itemsOf d = some (ks.map kD) ∧ Q (.dct (mergeD [] (ks.zip ys)))
section
variable {X : Cx} {w : Wd} {e f : Expr} {t : TDA} {p p2 pos pos2 : Pos}
theorem ped_dictZip (hm : X.mg "dict" = none) (hm2 : X.mg "zip" = none) (args : PAd X w [e, f] t) (hc : X.calm = true := by rfl) (hg : Gl X "dict" := by rfl) (hg2 : Gl X "zip" := by rfl)
    (hz : starEach [Expr.Call (.Name "zip" p2) [e, f] [] pos2] X.env = (false, eval (.Call (.Name "zip" p2) [e, f] [] pos2) X.env) :: starEach [] X.env := by rfl)
    (hs : starEach [e, f] X.env = (false, eval e X.env) :: starEach [f] X.env := by rfl) (hpl : (backTo pos2 (starEach [f] X.env)).any (·.1) = false := by rfl) :
    PEd X w (.Call (.Name "dict" p) [.Call (.Name "zip" p2) [e, f] [] pos2] [] pos) (dCall dictZ t) := by
  refine ⟨weE (pe_dictZip hc hg hm hg2 hm2 args.pa hz hs hpl) ?_, fun r Q Q' q h => args.mo _ _ _ (fun ds ⟨d, ks, ys, a, b, z⟩ => ⟨d, ks, ys, a, b, q _ z⟩) h⟩
  rintro σ H Q ⟨W, own, r, S, h⟩
  refine goA args S h fun xs vs H1 e1 k1 d1 p => ?_
  obtain ⟨d, ks, ys, rfl, it, z⟩ := p
  obtain ⟨v, u, rfl, dv, du⟩ := d1.two
  obtain ⟨l1, zs, rfl, q1, dz⟩ := items_sq dv it
  cases du with
  | @lst l2 us _ c1 c2 =>
    have ez := DvAll.keys dz
    subst ez
    refine ⟨l1, l2, ks, us, rfl, q1, SqL.of (hid_some c1).2, fun q nq => ?_⟩
    obtain ⟨e2, k2, s2, q2⟩ := k1.new (o := .dK (mergeK [] (ks.zip us))) nq
    exact (z.then e1) _ _ e2 k2 (.dct q2 (KvAll.mono s2 _ _ (KvAll.merge .nil (KvAll.zip c2))))
end
end Pd
namespace K37
open PySem PySem.Spec PyProof.Rows L2 Pd
def topS (i : Nat) : Stmt := PySem.Challenge.pw_asmuchas_k37_whole_tellings_of_worths.main.body.getD i (.Pass ⟨0, 0, 0, 0⟩)
abbrev s_bag : Stmt := topS 39
abbrev s_take : Stmt := topS 40
abbrev N_take : List Str := ["_law_bag_here", "_law_many", "_law_cell", "_law_mixed_here", "_law_value", "_law_begin", "_law_second"]
theorem sc_take : FnScope N_take ["_law_bag_here", "_law_many"] (defScope s_take) := ⟨rfl, rfl, rfl, by decide +kernel, rfl, by decide +kernel, by decide +kernel⟩
abbrev sp_is_within : Stmt := topS 7
abbrev Np_is_within : List Str := ["less", "one", "part"]
theorem scp_is_within : FnScope Np_is_within ["less", "one"] (defScope sp_is_within) := ⟨rfl, rfl, rfl, by decide +kernel, rfl, by decide +kernel, by decide +kernel⟩

abbrev sp_is_integer : Stmt := topS 13
abbrev Np_is_integer : List Str := ["thing"]
theorem scp_is_integer : FnScope Np_is_integer ["thing"] (defScope sp_is_integer) := ⟨rfl, rfl, rfl, by decide +kernel, rfl, by decide +kernel, by decide +kernel⟩

abbrev sp_is_name : Stmt := topS 14
abbrev Np_is_name : List Str := ["thing", "letter"]
theorem scp_is_name : FnScope Np_is_name ["thing"] (defScope sp_is_name) := ⟨rfl, rfl, rfl, by decide +kernel, rfl, by decide +kernel, by decide +kernel⟩

abbrev sp_are_names : Stmt := topS 15
abbrev Np_are_names : List Str := ["thing", "most", "part"]
theorem scp_are_names : FnScope Np_are_names ["thing", "most"] (defScope sp_are_names) := ⟨rfl, rfl, rfl, by decide +kernel, rfl, by decide +kernel, by decide +kernel⟩

abbrev sp_are_things : Stmt := topS 16
abbrev Np_are_things : List Str := ["thing"]
theorem scp_are_things : FnScope Np_are_things ["thing"] (defScope sp_are_things) := ⟨rfl, rfl, rfl, by decide +kernel, rfl, by decide +kernel, by decide +kernel⟩

abbrev sp_is_sum : Stmt := topS 17
abbrev Np_is_sum : List Str := ["thing"]
theorem scp_is_sum : FnScope Np_is_sum ["thing"] (defScope sp_is_sum) := ⟨rfl, rfl, rfl, by decide +kernel, rfl, by decide +kernel, by decide +kernel⟩

abbrev sp_is_pair : Stmt := topS 18
abbrev Np_is_pair : List Str := ["thing"]
theorem scp_is_pair : FnScope Np_is_pair ["thing"] (defScope sp_is_pair) := ⟨rfl, rfl, rfl, by decide +kernel, rfl, by decide +kernel, by decide +kernel⟩

abbrev sp_is_telling : Stmt := topS 19
abbrev Np_is_telling : List Str := ["thing"]
theorem scp_is_telling : FnScope Np_is_telling ["thing"] (defScope sp_is_telling) := ⟨rfl, rfl, rfl, by decide +kernel, rfl, by decide +kernel, by decide +kernel⟩

abbrev sp_sum_of : Stmt := topS 20
abbrev Np_sum_of : List Str := ["names"]
theorem scp_sum_of : FnScope Np_sum_of ["names"] (defScope sp_sum_of) := ⟨rfl, rfl, rfl, by decide +kernel, rfl, by decide +kernel, by decide +kernel⟩

abbrev sp_sums : Stmt := topS 21
abbrev Np_sums : List Str := ["things", "many", "found", "_", "one", "name"]
theorem scp_sums : FnScope Np_sums ["things", "many"] (defScope sp_sums) := ⟨rfl, rfl, rfl, by decide +kernel, rfl, by decide +kernel, by decide +kernel⟩

abbrev sp_pairs : Stmt := topS 22
abbrev Np_pairs : List Str := ["things", "many", "some", "place", "one", "other"]
theorem scp_pairs : FnScope Np_pairs ["things", "many"] (defScope sp_pairs) := ⟨rfl, rfl, rfl, by decide +kernel, rfl, by decide +kernel, by decide +kernel⟩

abbrev sp_stands_in : Stmt := topS 24
abbrev Np_stands_in : List Str := ["things", "telling"]
theorem scp_stands_in : FnScope Np_stands_in ["things", "telling"] (defScope sp_stands_in) := ⟨rfl, rfl, rfl, by decide +kernel, rfl, by decide +kernel, by decide +kernel⟩

abbrev sp_is_telling_of : Stmt := topS 25
abbrev Np_is_telling_of : List Str := ["things", "thing"]
theorem scp_is_telling_of : FnScope Np_is_telling_of ["things", "thing"] (defScope sp_is_telling_of) := ⟨rfl, rfl, rfl, by decide +kernel, rfl, by decide +kernel, by decide +kernel⟩

abbrev sp_are_tellings : Stmt := topS 26
abbrev Np_are_tellings : List Str := ["things", "thing", "part"]
theorem scp_are_tellings : FnScope Np_are_tellings ["things", "thing"] (defScope sp_are_tellings) := ⟨rfl, rfl, rfl, by decide +kernel, rfl, by decide +kernel, by decide +kernel⟩

abbrev so_init : Stmt := inClass (topS 27) 0
abbrev No_init : List Str := ["self", "things", "tellings"]
theorem sco_init : FnScope No_init ["self", "things", "tellings"] (defScope so_init) := ⟨rfl, rfl, rfl, by decide +kernel, rfl, by decide +kernel, by decide +kernel⟩

abbrev so_things : Stmt := inClass (topS 27) 1
abbrev No_things : List Str := ["self"]
theorem sco_things : FnScope No_things ["self"] (defScope so_things) := ⟨rfl, rfl, rfl, by decide +kernel, rfl, by decide +kernel, by decide +kernel⟩

abbrev so_eq : Stmt := inClass (topS 27) 2
abbrev No_eq : List Str := ["self", "other"]
theorem sco_eq : FnScope No_eq ["self", "other"] (defScope so_eq) := ⟨rfl, rfl, rfl, by decide +kernel, rfl, by decide +kernel, by decide +kernel⟩

abbrev so_len : Stmt := inClass (topS 27) 3
abbrev No_len : List Str := ["self"]
theorem sco_len : FnScope No_len ["self"] (defScope so_len) := ⟨rfl, rfl, rfl, by decide +kernel, rfl, by decide +kernel, by decide +kernel⟩

abbrev so_iter : Stmt := inClass (topS 27) 4
abbrev No_iter : List Str := ["self"]
theorem sco_iter : FnScope No_iter ["self"] (defScope so_iter) := ⟨rfl, rfl, rfl, by decide +kernel, rfl, by decide +kernel, by decide +kernel⟩

abbrev so_getitem : Stmt := inClass (topS 27) 5
abbrev No_getitem : List Str := ["self", "at"]
theorem sco_getitem : FnScope No_getitem ["self", "at"] (defScope so_getitem) := ⟨rfl, rfl, rfl, by decide +kernel, rfl, by decide +kernel, by decide +kernel⟩

abbrev so_or : Stmt := inClass (topS 27) 6
abbrev No_or : List Str := ["self", "other", "things"]
theorem sco_or : FnScope No_or ["self", "other"] (defScope so_or) := ⟨rfl, rfl, rfl, by decide +kernel, rfl, by decide +kernel, by decide +kernel⟩

abbrev so_has : Stmt := inClass (topS 27) 7
abbrev No_has : List Str := ["self", "index"]
theorem sco_has : FnScope No_has ["self", "index"] (defScope so_has) := ⟨rfl, rfl, rfl, by decide +kernel, rfl, by decide +kernel, by decide +kernel⟩

abbrev so_tellings : Stmt := inClass (topS 27) 8
abbrev No_tellings : List Str := ["self"]
theorem sco_tellings : FnScope No_tellings ["self"] (defScope so_tellings) := ⟨rfl, rfl, rfl, by decide +kernel, rfl, by decide +kernel, by decide +kernel⟩

abbrev so_indexes : Stmt := inClass (topS 27) 10
abbrev No_indexes : List Str := ["self", "word", "index", "telling"]
theorem sco_indexes : FnScope No_indexes ["self", "word"] (defScope so_indexes) := ⟨rfl, rfl, rfl, by decide +kernel, rfl, by decide +kernel, by decide +kernel⟩

abbrev sp_in_names : Stmt := topS 28
abbrev Np_in_names : List Str := ["some", "names", "name"]
theorem scp_in_names : FnScope Np_in_names ["some", "names"] (defScope sp_in_names) := ⟨rfl, rfl, rfl, by decide +kernel, rfl, by decide +kernel, by decide +kernel⟩

abbrev sp_renamed : Stmt := topS 29
abbrev Np_renamed : List Str := ["told", "names", "tellings", "word", "one", "other"]
theorem scp_renamed : FnScope Np_renamed ["told", "names"] (defScope sp_renamed) := ⟨rfl, rfl, rfl, by decide +kernel, rfl, by decide +kernel, by decide +kernel⟩

abbrev sp_are_worths : Stmt := topS 31
abbrev Np_are_worths : List Str := ["things", "thing", "name"]
theorem scp_are_worths : FnScope Np_are_worths ["things", "thing"] (defScope sp_are_worths) := ⟨rfl, rfl, rfl, by decide +kernel, rfl, by decide +kernel, by decide +kernel⟩

abbrev sp_worth : Stmt := topS 32
abbrev Np_worth : List Str := ["worths", "one", "name"]
theorem scp_worth : FnScope Np_worth ["worths", "one"] (defScope sp_worth) := ⟨rfl, rfl, rfl, by decide +kernel, rfl, by decide +kernel, by decide +kernel⟩

abbrev sp_word_in : Stmt := topS 33
abbrev Np_word_in : List Str := ["worths", "pair", "above"]
theorem scp_word_in : FnScope Np_word_in ["worths", "pair"] (defScope sp_word_in) := ⟨rfl, rfl, rfl, by decide +kernel, rfl, by decide +kernel, by decide +kernel⟩

abbrev sp_classes : Stmt := topS 34
abbrev Np_classes : List Str := ["worths", "many", "found", "one", "key"]
theorem scp_classes : FnScope Np_classes ["worths", "many"] (defScope sp_classes) := ⟨rfl, rfl, rfl, by decide +kernel, rfl, by decide +kernel, by decide +kernel⟩

abbrev sp_is_so : Stmt := topS 35
abbrev Np_is_so : List Str := ["word", "left", "right"]
theorem scp_is_so : FnScope Np_is_so ["word", "left", "right"] (defScope sp_is_so) := ⟨rfl, rfl, rfl, by decide +kernel, rfl, by decide +kernel, by decide +kernel⟩

abbrev sp_misfits : Stmt := topS 36
abbrev Np_misfits : List Str := ["told", "worths", "index", "word", "one", "other"]
theorem scp_misfits : FnScope Np_misfits ["told", "worths"] (defScope sp_misfits) := ⟨rfl, rfl, rfl, by decide +kernel, rfl, by decide +kernel, by decide +kernel⟩

abbrev sp_fits : Stmt := topS 37
abbrev Np_fits : List Str := ["told", "thing"]
theorem scp_fits : FnScope Np_fits ["told", "thing"] (defScope sp_fits) := ⟨rfl, rfl, rfl, by decide +kernel, rfl, by decide +kernel, by decide +kernel⟩

abbrev s_mixed : Stmt := topS 41
abbrev N_mixed : List Str := ["_law_bag_here", "_law_things_here", "_law_found", "_law_thing"]
theorem sc_mixed : FnScope N_mixed ["_law_bag_here", "_law_things_here"] (defScope s_mixed) := ⟨rfl, rfl, rfl, by decide +kernel, rfl, by decide +kernel, by decide +kernel⟩

abbrev s_one : Stmt := topS 42
abbrev N_one : List Str := ["_law_bag_here", "_law_things_here"]
theorem sc_one : FnScope N_one ["_law_bag_here", "_law_things_here"] (defScope s_one) := ⟨rfl, rfl, rfl, by decide +kernel, rfl, by decide +kernel, by decide +kernel⟩

abbrev s_things : Stmt := topS 43
abbrev N_things : List Str := ["_law_bag_here", "_law_many", "_law_menu", "_law_way", "_law_turn", "_law_letters", "_law_stem", "_law_k"]
theorem sc_things : FnScope N_things ["_law_bag_here", "_law_many"] (defScope s_things) := ⟨rfl, rfl, rfl, by decide +kernel, rfl, by decide +kernel, by decide +kernel⟩

abbrev s_sum : Stmt := topS 44
abbrev N_sum : List Str := ["_law_bag_here", "_law_things_here", "_law_many", "_law_k"]
theorem sc_sum : FnScope N_sum ["_law_bag_here", "_law_things_here", "_law_many"] (defScope s_sum) := ⟨rfl, rfl, rfl, by decide +kernel, rfl, by decide +kernel, by decide +kernel⟩

abbrev s_pair : Stmt := topS 45
abbrev N_pair : List Str := ["_law_bag_here", "_law_things_here", "_law_many", "_law_way", "_law_one_here"]
theorem sc_pair : FnScope N_pair ["_law_bag_here", "_law_things_here"] (defScope s_pair) := ⟨rfl, rfl, rfl, by decide +kernel, rfl, by decide +kernel, by decide +kernel⟩

abbrev s_worths : Stmt := topS 46
abbrev N_worths : List Str := ["_law_bag_here", "_law_things_here", "_law_low", "_law_high", "_law_name"]
theorem sc_worths : FnScope N_worths ["_law_bag_here", "_law_things_here", "_law_low", "_law_high"] (defScope s_worths) := ⟨rfl, rfl, rfl, by decide +kernel, rfl, by decide +kernel, by decide +kernel⟩

abbrev s_true_telling : Stmt := topS 47
abbrev N_true_telling : List Str := ["_law_worths_here", "_law_pair_here", "_law_word"]
theorem sc_true_telling : FnScope N_true_telling ["_law_worths_here", "_law_pair_here"] (defScope s_true_telling) := ⟨rfl, rfl, rfl, by decide +kernel, rfl, by decide +kernel, by decide +kernel⟩

abbrev s_words_right : Stmt := topS 48
abbrev N_words_right : List Str := ["_law_worths_here", "_law_pair_here", "_law_things_here", "_law_word", "_law_due", "_law_some", "_law_one_here"]
theorem sc_words_right : FnScope N_words_right ["_law_worths_here", "_law_pair_here", "_law_things_here"] (defScope s_words_right) := ⟨rfl, rfl, rfl, by decide +kernel, rfl, by decide +kernel, by decide +kernel⟩

abbrev s_led : Stmt := topS 49
abbrev N_led : List Str := ["_law_worths_here", "_law_names", "_law_name"]
theorem sc_led : FnScope N_led ["_law_worths_here", "_law_names"] (defScope s_led) := ⟨rfl, rfl, rfl, by decide +kernel, rfl, by decide +kernel, by decide +kernel⟩

structure Txt (K : PySem.W.Frag) (mg : Str → Option Value) (C : Addr) : Prop where
  d_take : DefAt K mg "_law_take" s_take ["_law_bag_here", "_law_many"]
  dp_is_within : DefAt K mg "is_within" sp_is_within ["less", "one"]
  dp_is_integer : DefAt K mg "is_integer" sp_is_integer ["thing"]
  dp_is_name : DefAt K mg "is_name" sp_is_name ["thing"]
  dp_are_names : DefAt K mg "_are_names" sp_are_names ["thing", "most"]
  dp_are_things : DefAt K mg "are_things" sp_are_things ["thing"]
  dp_is_sum : DefAt K mg "is_sum" sp_is_sum ["thing"]
  dp_is_pair : DefAt K mg "is_pair" sp_is_pair ["thing"]
  dp_is_telling : DefAt K mg "is_telling" sp_is_telling ["thing"]
  dp_sum_of : DefAt K mg "sum_of" sp_sum_of ["names"]
  dp_sums : DefAt K mg "sums" sp_sums ["things", "many"]
  dp_pairs : DefAt K mg "pairs" sp_pairs ["things", "many"]
  dp_stands_in : DefAt K mg "_stands_in" sp_stands_in ["things", "telling"]
  dp_is_telling_of : DefAt K mg "is_telling_of" sp_is_telling_of ["things", "thing"]
  dp_are_tellings : DefAt K mg "_are_tellings" sp_are_tellings ["things", "thing"]
  dp_in_names : DefAt K mg "_in_names" sp_in_names ["some", "names"]
  dp_renamed : DefAt K mg "renamed" sp_renamed ["told", "names"]
  dp_are_worths : DefAt K mg "are_worths" sp_are_worths ["things", "thing"]
  dp_worth : DefAt K mg "worth" sp_worth ["worths", "one"]
  dp_word_in : DefAt K mg "word_in" sp_word_in ["worths", "pair"]
  dp_classes : DefAt K mg "classes" sp_classes ["worths", "many"]
  dp_is_so : DefAt K mg "_is_so" sp_is_so ["word", "left", "right"]
  dp_misfits : DefAt K mg "misfits" sp_misfits ["told", "worths"]
  dp_fits : DefAt K mg "fits" sp_fits ["told", "thing"]
  d_mixed : DefAt K mg "_law_mixed" s_mixed ["_law_bag_here", "_law_things_here"]
  d_one : DefAt K mg "_law_one" s_one ["_law_bag_here", "_law_things_here"]
  d_things : DefAt K mg "_law_things" s_things ["_law_bag_here", "_law_many"]
  d_sum : DefAt K mg "_law_sum" s_sum ["_law_bag_here", "_law_things_here", "_law_many"]
  d_pair : DefAt K mg "_law_pair" s_pair ["_law_bag_here", "_law_things_here"]
  d_worths : DefAt K mg "_law_worths" s_worths ["_law_bag_here", "_law_things_here", "_law_low", "_law_high"]
  d_true_telling : DefAt K mg "_law_true_telling" s_true_telling ["_law_worths_here", "_law_pair_here"]
  d_words_right : DefAt K mg "_law_words_right" s_words_right ["_law_worths_here", "_law_pair_here", "_law_things_here"]
  d_led : DefAt K mg "_law_led" s_led ["_law_worths_here", "_law_names"]

  cl : Cls K C
  eqf : OwnEqF K C
  n_things : NoAttr K C "_things"
  n_tellings : NoAttr K C "_tellings"
  g_Told : mg "Told" = some (.ref C)
  i_told : ∃ f fd, Fun K "__init__" "Told.__init__" so_init f fd ∧ Mk K C f ∧ mg "Told" = some (.ref C) ∧ Binds K fd ["self", "things", "tellings"] []
  p_things : ∃ a f fd, Fun K "things" "Told.things" so_things f fd ∧ PropOf K C "things" a f ∧ Binds K fd ["self"] []
  o_iter : MethAt K C "__iter__" "Told.__iter__" so_iter ["self"]
  o_eq : MethAt K C "__eq__" "Told.__eq__" so_eq ["self", "other"]
  o_len : MethAt K C "__len__" "Told.__len__" so_len ["self"]
  m_all : mg "all" = none
  m_any : mg "any" = none
  m_bool : mg "bool" = none
  m_dict : mg "dict" = none
  m_enumerate : mg "enumerate" = none
  m_int : mg "int" = none
  m_isinstance : mg "isinstance" = none
  m_iter : mg "iter" = none
  m_len : mg "len" = none
  m_list : mg "list" = none
  m_range : mg "range" = none
  m_set : mg "set" = none
  m_sorted : mg "sorted" = none
  m_str : mg "str" = none
  m_sum : mg "sum" = none
  m_tuple : mg "tuple" = none
  m_zip : mg "zip" = none
  m_MOST_THINGS : ∃ t, mg "MOST_THINGS" = some (.int 6 t)
  m_MOST_NAMES : ∃ t, mg "MOST_NAMES" = some (.int 3 t)
  m_MOST_LETTERS : ∃ t, mg "MOST_LETTERS" = some (.int 8 t)
  m_WORDS : ∃ a, mg "WORDS" = some (.ref a) ∧ ∀ H, TupS K H a ([("alike" : Str), "heavier", "unlike"].map V.str)
section
variable {C : Addr} {P : Program} {wd : World} {K : PySem.W.Frag} {mg : Str → Option Value} {base : Heap}
/-- the heap in a draw -/
theorem take_sq {H0 H : Hp} {g c : Addr} {cs : List Int} {x y : Int} {z : Nat} (B : BagT K H0 g c cs H x y z) : SqL K H g [.int x, .int y, .int z, .ref c] := SqL.of B.at_g
theorem at0 {a b c d : V} : atI [a, b, c, d] 0 = some a := atI_nat (j := 0) rfl
theorem at1 {a b c d : V} : atI [a, b, c, d] 1 = some b := atI_nat (j := 1) rfl
theorem at2 {a b c d : V} : atI [a, b, c, d] 2 = some c := atI_nat (j := 2) rfl
theorem at3 {a b c d : V} : atI [a, b, c, d] 3 = some d := atI_nat (j := 3) rfl
theorem seq_via {t u : TS} {D : Ends} {σ : L2.St} {H : Hp} (I : L2.St → Hp → Prop) (h2 : ∀ σ' H', I σ' H' → u D σ' H') (h1 : (∀ σ' H', I σ' H' → u D σ' H') → t { D with nx := u D } σ H) : tSeq t u D σ H := h1 h2
theorem seq_c {v : V} {i : Nat} {u : TS} {D : Ends} {σ : L2.St} {H : Hp} (h : u D (σ.set i (some v)) H) : tSeq (tAsg (tC v) (gName i)) u D σ H := h
/-- in a draw: the slots and the heap -/
structure TkI (K : PySem.W.Frag) (H0 : Hp) (g c : Addr) (cs : List Int) (n : Int) (σ : L2.St) (H : Hp) : Prop where
  ex : ∃ x y z u2 u3 u4 u5 u6, σ = [some (.ref g), some (.int n), u2, u3, u4, u5, u6] ∧ BagT K H0 g c cs H x y z
theorem ok_take (T : Txt K mg C) : Calld P wd K mg base 1 "_law_take" ["_law_bag_here", "_law_many"] pTake := by
  obtain ⟨f, fd, F, at_f, bd⟩ := T.d_take.ex
  refine ⟨⟨f, fd, FunG.ok F sc_take ?_ ?_, at_f, F.kp, bd⟩, pTake_mo⟩
  · rintro vs H Q E ⟨g, W, ds, k, dv, n, rfl, _⟩
    exact dv.len
  · rintro cdv A outer s0 H vs Q E hr hG ⟨gg, W, ds, k, dv, n, rfl, hn, hn9, h⟩
    obtain ⟨v1, v2, rfl, d1, d2⟩ := dv.two
    cases d2
    cases d1 with
    | @bag g eg =>
    obtain ⟨x0, y0, z0, c, cs, b1, b2⟩ := k.bag g eg
    obtain ⟨b3, b4⟩ := hid_some b2
    have neg : c ≠ g := fun z => by rw [z, k.gW g eg] at b3; cases b3
    have B0 : BagT K H g c cs H x0 y0 z0 := ⟨fun _ _ _ h => h, b1, b4, neg⟩
    -- what is told at the end
    have fin : ∀ (r : Int) (H' : Hp) (x y : Int) (z : Nat), 0 ≤ r → r < n → BagT K H g c cs H' x y z → Q (.int r) H' := by
      intro r H' x y z r0 r1 B
      have e : Ext gg H H' := ⟨fun b o nb hb => B.keep b o (fun z => nb (by rw [z]; exact eg)) hb, fun a xs ha hx => by
        have : a = g := Option.some.inj (ha.symm.trans eg)
        subst this
        cases b1.symm.trans hx
        exact ⟨_, B.at_g, rfl⟩⟩
      refine h r r0 r1 _ H' e ⟨fun a ha => ?_, k.gW, fun a ha => ?_⟩ (.int r)
      · have : a = g := Option.some.inj (ha.symm.trans eg)
        subst this
        exact ⟨x, y, z, c, cs, B.at_g, by rw [hid_no b3]; exact B.at_c⟩
      · by_cases z' : a = g
        · exact ⟨_, by rw [z']; exact B.at_g⟩
        · obtain ⟨o, q⟩ := k.al a ha
          exact ⟨o, B.keep a o z' q⟩
    refine ⟨_, pss_cons (ps_if (pt_cmp (pc_eqI (pe_ix ix_list (pv 0) pe_int (fun _ _ => rfl)) pe_int))
        (pss_cons (ps_set (i := 2) sc_take.nd rfl (.inl rfl) pe_int)
        (pss_cons (ps_if (pt_cmp (pc_lt (pe_ix ix_list (pv 0) pe_int (fun _ _ => rfl)) (pe_callB call_len_seq (by rfl) T.m_len PySem.boot_len (pa_cons (pe_ix ix_list (pv 0) pe_int (fun _ _ => rfl)) pa_nil))))
            (pss_one (ps_set (i := 2) sc_take.nd rfl (.inl rfl) (pe_ix ix_list (pe_ix ix_list (pv 0) pe_int (fun _ _ => rfl)) (pe_ix ix_list (pv 0) pe_int (fun _ _ => rfl)) (fun _ _ => rfl)))) pss_nil)
        (pss_cons (ps_augS (pv 0) pe_int pget_list pe_int ip_add set_list)
        (pss_cons (ps_if (pt_cmp (pc_ge (pv 2) pe_int)) (pss_one (ps_asg (pv 2) (pg_sub (pv 0) pe_int set_list))) pss_nil)
        (pss_cons (ps_set (i := 3) sc_take.nd rfl (.inl rfl) (pe_op op_add (pe_op op_add (pe_op op_mul (pe_ix ix_list (pv 0) pe_int (fun _ _ => rfl)) pe_int)
            (pe_op op_mod (pe_callTy call_int1 (by rfl) T.m_int (by decide +kernel) (pa_cons (pv 2) pa_nil)) pe_int)) (pe_op op_mul pe_int (pe_ix ix_list (pv 0) pe_int (fun _ _ => rfl)))))
        (pss_one (ps_asg (pe_op op_mod (pe_callTy call_int1 (by rfl) T.m_int (by decide +kernel) (pa_cons (pv 3) pa_nil)) pe_int) (pg_sub (pv 0) pe_int set_list)))))))) pss_nil)
      (pss_cons (ps_if (pt_cmp (pc_gt (pe_ix ix_list (pv 0) pe_int (fun _ _ => rfl)) pe_int))
        (pss_cons (ps_set (i := 4) sc_take.nd rfl (.inl rfl) (pe_op op_mod (pe_callTy call_int1 (by rfl) T.m_int (by decide +kernel) (pa_cons (pe_ix ix_list (pv 0) pe_int (fun _ _ => rfl)) pa_nil)) (pv 1)))
        (pss_cons (ps_asg (pe_op op_fdivW (pe_ix ix_list (pv 0) pe_int (fun _ _ => rfl)) (pv 1)) (pg_sub (pv 0) pe_int set_list))
        (pss_one (ps_ret (pv 4))))) pss_nil)
      (pss_cons (ps_set (i := 5) sc_take.nd rfl (.inl rfl) (pe_op op_mod (pe_callTy call_int1 (by rfl) T.m_int (by decide +kernel) (pa_cons (pe_op op_mul (pe_op op_add (pe_ix ix_list (pv 0) pe_int (fun _ _ => rfl)) pe_int) pe_int) pa_nil)) pe_int))
      (pss_cons (ps_set (i := 6) sc_take.nd rfl (.inl rfl) (pe_op op_mod (pe_callTy call_int1 (by rfl) T.m_int (by decide +kernel) (pa_cons (pe_op op_mul (pe_op op_mod (pe_callTy call_int1 (by rfl) T.m_int (by decide +kernel) (pa_cons (pe_op op_mul (pv 5) (pv 5)) pa_nil)) pe_int) pe_int) pa_nil)) pe_int))
      (pss_cons (ps_if (pt_cmp (pc_gt (pv 1) pe_int)) (pss_one (ps_ret (pe_op op_mod (pe_callTy call_int1 (by rfl) T.m_int (by decide +kernel) (pa_cons (pe_op op_add (pe_op op_mul (pv 6) pe_int) (pv 5)) pa_nil)) (pv 1)))) pss_nil)
      (pss_one (ps_ret (pe_op op_mod (pe_callTy call_int1 (by rfl) T.m_int (by decide +kernel) (pa_cons (pe_op op_fdiv (pv 6) pe_int) pa_nil)) (pv 1)))))))), ?_⟩
    refine seq_via (fun σ' H' => TkI K H g c cs n σ' H') (fun σ' H' I => ?_) (fun rest => ?_)
    · obtain ⟨x, y, z, u2, u3, u4, u5, u6, rfl, B⟩ := I.ex
      -- if bag[0] > 0
      refine ⟨.ref g, rfl, g, _, 0, _, rfl, rfl, SqL.of B.at_g, at0, x, 0, rfl, rfl, _, rfl, ite2 (fun hx => ?_) (fun hx => ?_)⟩
      · -- value, the bag's first place, return
        refine ⟨.ref g, rfl, g, _, 0, _, rfl, rfl, SqL.of B.at_g, at0, .inl ⟨x, rfl, .int n, rfl, x, n, rfl, rfl, hn, ?_⟩⟩
        refine ⟨.ref g, rfl, g, _, 0, _, rfl, rfl, SqL.of B.at_g, at0, .int n, rfl, x, n, rfl, rfl, ⟨hn, hn9⟩, ?_⟩
        refine ⟨.ref g, rfl, g, _, 0, 0, rfl, rfl, B.at_g, ix4 (n := 4) (k := 0) (j := 0) rfl (by decide), ?_⟩
        refine ⟨.int (x % n), rfl, ?_⟩
        have m := mod_lt (i := x) hn
        exact fin _ _ _ _ _ m.1 m.2 B.put
      · -- begin, second
        refine ⟨.ref g, rfl, g, _, 1, _, rfl, rfl, SqL.of B.at_g, at1, y, 1, rfl, rfl, y + 1, 39373, rfl, rfl, mul_ok (by decide) (by decide), .inl ⟨_, rfl, _, 1000000007, rfl, rfl, (by decide : (0 : Int) < 1000000007), ?_⟩⟩
        have m1 := mod_lt (i := (y + 1) * 39373) (n := 1000000007) (by decide)
        refine ⟨_, rfl, _, rfl, (y + 1) * 39373 % 1000000007, (y + 1) * 39373 % 1000000007, rfl, rfl, mul_ok m1.1 (by omega), .inl ⟨_, rfl, _, 998244353, rfl, rfl, (by decide : (0 : Int) < 998244353), ?_⟩⟩
        refine ⟨_, 30011, rfl, rfl, mul_ok (by decide) (by decide), .inl ⟨_, rfl, _, 998244353, rfl, rfl, (by decide : (0 : Int) < 998244353), ?_⟩⟩
        refine ⟨.int n, rfl, n, 1000000, rfl, rfl, _, rfl, ite2 (fun hx => ?_) (fun hx => ?_)⟩
        · refine ⟨_, rfl, _, 1000000007, rfl, rfl, mul_ok (by decide) (by decide), _, rfl, _, _, rfl, rfl, .inl ⟨_, rfl, .int n, rfl, _, n, rfl, rfl, hn, ?_⟩⟩
          exact fin _ _ _ _ _ (mod_lt hn).1 (mod_lt hn).2 B
        · refine ⟨_, rfl, _, 7, rfl, rfl, ⟨by decide, by decide⟩, .inl ⟨_, rfl, .int n, rfl, _, n, rfl, rfl, hn, ?_⟩⟩
          exact fin _ _ _ _ _ (mod_lt hn).1 (mod_lt hn).2 B
    · refine ⟨.ref g, rfl, g, _, 0, _, rfl, rfl, SqL.of B0.at_g, at0, x0, 0, rfl, rfl, _, rfl, ite2 (fun hx => ?_) (fun hx => ?_)⟩
      · -- a new cell
        refine seq_c ?_
        refine seq_via (fun σ' H' => ∃ cell : Int, σ' = [some (.ref g), some (.int n), some (.int cell), none, none, none, none] ∧ H' = H) (fun σ' H' I => ?_) (fun rest1 => ?_)
        · obtain ⟨cell, rfl, rfl⟩ := I
          -- bag[2] += 1
          refine ⟨.ref g, rfl, g, _, 2, _, rfl, rfl, SqL.of B0.at_g, at2, (z0 : Int), 1, rfl, rfl, ?_⟩
          refine ⟨g, _, 2, 2, rfl, rfl, B0.at_g, ix4 (n := 4) (k := 2) (j := 2) rfl (by decide), ?_⟩
          have B1 : BagT K H' g c cs (upd H' g (bagL x0 y0 (z0 + 1) c)) x0 y0 (z0 + 1) := B0.put
          dsimp only
          refine seq_via (fun σ'' H'' => ∃ x1 : Int, σ'' = [some (.ref g), some (.int n), some (.int cell), none, none, none, none] ∧ BagT K H' g c cs H'' x1 y0 (z0 + 1)) (fun σ'' H'' I => ?_) (fun rest2 => ?_)
          · obtain ⟨x1, rfl, B2⟩ := I
            refine ⟨.ref g, rfl, g, _, 1, _, rfl, rfl, SqL.of B2.at_g, at1, y0, 48271, rfl, rfl, mul_ok (by decide) (by decide), .int cell, rfl, .inl ⟨cell, rfl, cell, 2147483647, rfl, rfl, (by decide : (0 : Int) < 2147483647), ?_⟩⟩
            refine ⟨_, _, rfl, rfl, .ref g, rfl, g, _, 2, _, rfl, rfl, SqL.of B2.at_g, at2, 7919, _, rfl, rfl, .inl ⟨by decide, by decide⟩, _, _, rfl, rfl, ?_⟩
            refine ⟨_, rfl, .inl ⟨_, rfl, _, 2147483647, rfl, rfl, (by decide : (0 : Int) < 2147483647), ?_⟩⟩
            refine ⟨.ref g, rfl, g, _, 1, 1, rfl, rfl, B2.at_g, ix4 (n := 4) (k := 1) (j := 1) rfl (by decide), ?_⟩
            exact rest _ _ ⟨⟨x1, _, z0 + 1, _, _, _, _, _, rfl, B2.put⟩⟩
          · refine ⟨.int cell, rfl, cell, 1000000000000000000, rfl, rfl, _, rfl, ite2 (fun hx => ?_) (fun hx => ?_)⟩
            · refine ⟨.int cell, rfl, .ref g, rfl, g, _, 0, 0, rfl, rfl, B1.at_g, ix4 (n := 4) (k := 0) (j := 0) rfl (by decide), ?_⟩
              exact rest2 _ _ ⟨cell, rfl, B1.put⟩
            · exact rest2 _ _ ⟨x0, rfl, B1⟩
        · -- if bag[2] < len(bag[3])
          refine ⟨.ref g, rfl, g, _, 2, _, rfl, rfl, SqL.of B0.at_g, at2, .ref g, rfl, g, _, 3, _, rfl, rfl, SqL.of B0.at_g, at3, c, _, rfl, .inl (SqL.of b4), (z0 : Int), _, rfl, rfl, _, rfl, ite2 (fun hx => ?_) (fun hx => ?_)⟩
          · have hl : z0 < cs.length := by
              have q := of_decide_eq_true hx
              rw [List.length_map] at q
              omega
            have hc : (cs.map V.int)[z0]? = some (.int cs[z0]) := by rw [List.getElem?_map, List.getElem?_eq_getElem hl]; rfl
            refine ⟨.ref g, rfl, g, _, 3, _, rfl, rfl, SqL.of B0.at_g, at3, .ref g, rfl, g, _, 2, _, rfl, rfl, SqL.of B0.at_g, at2, c, _, _, _, rfl, rfl, SqL.of b4, atI_nat hc, ?_⟩
            exact rest1 _ _ ⟨_, rfl, rfl⟩
          · exact rest1 _ _ ⟨0, rfl, rfl⟩
      · exact rest _ _ ⟨⟨x0, y0, z0, _, _, _, _, _, rfl, B0⟩⟩
end
end K37
namespace K37
open PySem PySem.Spec PyProof.Rows L2 Pd
mutual
/-- what may be handed in -/
def okD : Da → Bool
  | .non => true
  | .bl _ => true
  | .int _ => true
  | .str x => decide (x.length ≤ 16777216)
  | .lst _ => true
  | .tup xs => decide (xs.length ≤ 60) && okDs xs
  | .tpw _ => false
  | .dct _ => true
  | .bag => false
  | .raw _ => false
  | .fix _ => false
def okDs : List Da → Bool
  | [] => true
  | x :: xs => okD x && okDs xs
end
theorem okDs_mem : ∀ {xs : List Da} {d : Da}, okDs xs = true → d ∈ xs → okD d = true
  | x :: xs, d, h, m => by
    rw [okDs, Bool.and_eq_true] at h
    rcases List.mem_cons.mp m with e | e
    · rw [e]; exact h.1
    · exact okDs_mem h.2 e
def pOf (f : Da → Bool) : DSp := fun ds Q => ∃ d, ds = [d] ∧ okD d = true ∧ Q (.bl (f d))
theorem pOf_mo {f : Da → Bool} : MoP (pOf f) := fun _ _ _ q ⟨d, a, b, z⟩ => ⟨d, a, b, q _ z⟩
def isInt : Da → Bool
  | .int _ => true
  | _ => false
def nameS (x : Str) : Bool := decide (1 ≤ x.length) && (decide (x.length ≤ 8) && x.cps.toList.all fun c => decide (97 ≤ c) && decide (c ≤ 122))
def isName : Da → Bool
  | .str x => nameS x
  | _ => false
def areNames (most : Nat) : Da → Bool
  | .tup xs => decide (xs.length ≤ most) && xs.all isName
  | _ => false
section
variable {C : Addr} {P : Program} {wd : World} {K : PySem.W.Frag} {mg : Str → Option Value} {base : Heap}
theorem okp_is_integer (T : Txt K mg C) : Calld P wd K mg base 1 "is_integer" ["thing"] (pOf isInt) := by
  refine defC T.dp_is_integer scp_is_integer ?_ pOf_mo ?_
  · rintro ds Q ⟨d, rfl, _⟩
    rfl
  · rintro f cdv A outer s0 H E w ds Q hr hG ⟨d, rfl, hd, q⟩
    refine ⟨_, (psd_one (psd_ret (ped_and (ped_isi (T := "int") T.m_isinstance (ped_var 0) T.m_int (by decide +kernel)) (ped_one (ped_not (ped_isi (T := "bool") T.m_isinstance (ped_var 0) T.m_bool (by decide +kernel))))))), ?_⟩
    cases d with
    | non => exact ⟨_, rfl, _, false, rfl, by decide +kernel, _, rfl, (if_neg (by decide)).mpr q⟩
    | bl b => exact ⟨_, rfl, _, true, rfl, by decide +kernel, _, rfl, (if_pos rfl).mpr ⟨_, rfl, _, true, rfl, by decide +kernel, _, rfl, q⟩⟩
    | int i => exact ⟨_, rfl, _, true, rfl, by decide +kernel, _, rfl, (if_pos rfl).mpr ⟨_, rfl, _, false, rfl, by decide +kernel, _, rfl, q⟩⟩
    | str x => exact ⟨_, rfl, _, false, rfl, by decide +kernel, _, rfl, (if_neg (by decide)).mpr q⟩
    | lst xs => exact ⟨_, rfl, _, false, rfl, by decide +kernel, _, rfl, (if_neg (by decide)).mpr q⟩
    | tup xs => exact ⟨_, rfl, _, false, rfl, by decide +kernel, _, rfl, (if_neg (by decide)).mpr q⟩
    | tpw xs => rw [okD] at hd; cases hd
    | dct xs => exact ⟨_, rfl, _, false, rfl, by decide +kernel, _, rfl, (if_neg (by decide)).mpr q⟩
    | bag => rw [okD] at hd; cases hd
    | raw v => rw [okD] at hd; cases hd
    | fix v => rw [okD] at hd; cases hd
theorem lt_one {a b : Nat} : ltS ⟨#[a]⟩ ⟨#[b]⟩ = decide (a < b) := by
  unfold ltS
  show decide ([a] < [b]) = _
  rw [Bool.eq_iff_iff, decide_eq_true_eq, decide_eq_true_eq, List.cons_lt_cons_iff]
  constructor
  · rintro (h | ⟨_, h⟩)
    · exact h
    · exact absurd h (by simp)
  · exact .inl
/-- isinstance(d, str) and the like, told -/
theorem kit_str {d : Da} (hd : okD d = true) (h : ∀ x, d ≠ .str x) : ∃ t, tyD d = some t ∧ kitB t "str" = some false := by
  cases d with
  | non => exact ⟨_, rfl, by decide +kernel⟩
  | bl b => exact ⟨_, rfl, by decide +kernel⟩
  | int i => exact ⟨_, rfl, by decide +kernel⟩
  | str x => exact absurd rfl (h x)
  | lst xs => exact ⟨_, rfl, by decide +kernel⟩
  | tup xs => exact ⟨_, rfl, by decide +kernel⟩
  | tpw xs => rw [okD] at hd; cases hd
  | dct xs => exact ⟨_, rfl, by decide +kernel⟩
  | bag => rw [okD] at hd; cases hd
  | raw v => rw [okD] at hd; cases hd
  | fix v => rw [okD] at hd; cases hd
theorem kit_tup {d : Da} (hd : okD d = true) (h : ∀ x, d ≠ .tup x) : ∃ t, tyD d = some t ∧ kitB t "tuple" = some false := by
  cases d with
  | non => exact ⟨_, rfl, by decide +kernel⟩
  | bl b => exact ⟨_, rfl, by decide +kernel⟩
  | int i => exact ⟨_, rfl, by decide +kernel⟩
  | tup x => exact absurd rfl (h x)
  | lst xs => exact ⟨_, rfl, by decide +kernel⟩
  | str xs => exact ⟨_, rfl, by decide +kernel⟩
  | tpw xs => rw [okD] at hd; cases hd
  | dct xs => exact ⟨_, rfl, by decide +kernel⟩
  | bag => rw [okD] at hd; cases hd
  | raw v => rw [okD] at hd; cases hd
  | fix v => rw [okD] at hd; cases hd
theorem str_or (d : Da) : (∃ x, d = .str x) ∨ ∀ x, d ≠ .str x := by
  cases d with
  | str x => exact .inl ⟨x, rfl⟩
  | _ => exact .inr fun x z => by cases z
theorem tup_or (d : Da) : (∃ x, d = .tup x) ∨ ∀ x, d ≠ .tup x := by
  cases d with
  | tup x => exact .inl ⟨x, rfl⟩
  | _ => exact .inr fun x z => by cases z
theorem isName_no {d : Da} (h : ∀ x, d ≠ .str x) : isName d = false := by
  cases d with
  | str x => exact absurd rfl (h x)
  | _ => rfl
theorem areNames_no {d : Da} {m : Nat} (h : ∀ x, d ≠ .tup x) : areNames m d = false := by
  cases d with
  | tup x => exact absurd rfl (h x)
  | _ => rfl
theorem okp_is_name (T : Txt K mg C) : Calld P wd K mg base 1 "is_name" ["thing"] (pOf isName) := by
  obtain ⟨_, g_letters⟩ := T.m_MOST_LETTERS
  refine defC T.dp_is_name scp_is_name ?_ pOf_mo ?_
  · rintro ds Q ⟨d, rfl, _⟩
    rfl
  · rintro f cdv A outer s0 H E w ds Q hr hG ⟨d, rfl, hd, q⟩
    refine ⟨_, (psd_cons (psd_if (PWd.pt (pwd_or (ptd_not (ptd_val (ped_isi (T := "str") T.m_isinstance (ped_var 0) T.m_str (by decide +kernel)))) (pwd_or1 (ptd_not (ptd_lele ped_int (ped_len T.m_len (pad_cons (ped_var 0) pad_nil)) (ped_gint g_letters)))))) (psd_one (psd_ret ped_bl)) psd_nil)
    (psd_one (psd_ret (ped_all T.m_all (pad_cons (ped_lc (own := [("letter", 1)]) scp_is_name.nd (pid_str (ped_var 0)) (blkOk_by (own := [("letter", 1)]) (N := Np_is_name) (sc := defScope sp_is_name) (by decide +kernel)) (gd_name 1) (gName_mo 1) (by decide) (fun _ _ _ _ _ => (pg_name (i := 1) scp_is_name.nd rfl (Or.inl rfl))) (fun _ _ _ _ _ => ptsd_nil) (fun _ _ _ _ _ => (ped_lele ped_str (ped_var 1) ped_str)) s0) pad_nil))))), ?_⟩
    rcases str_or d with ⟨x, rfl⟩ | no
    · rw [okD] at hd
      have hx := of_decide_eq_true hd
      refine ⟨_, rfl, _, true, rfl, by decide +kernel, _, rfl, (if_neg (by decide)).mpr ?_⟩
      refine ⟨_, rfl, _, rfl, .inr ⟨_, rfl, by rw [sizeLine_eq]; exact hx, decide ((1 : Int) ≤ (x.length : Nat)), rfl, ite2 (fun h1 => ?_) (fun h1 => ?_)⟩⟩
      · have h1' : (1 : Int) ≤ x.length := of_decide_eq_true h1
        refine ⟨_, rfl, ite2 (fun h2 => ?_) (fun h2 => ?_)⟩
        · have h2' : ¬ (x.length : Int) ≤ 8 := by simpa using h2
          have e : isName (.str x) = false := by
            show nameS x = false
            unfold nameS
            rw [show decide (x.length ≤ 8) = false from decide_eq_false (by omega)]
            simp
          rw [e] at q
          exact q
        · have h2' : (x.length : Int) ≤ 8 := by simpa using h2
          refine ⟨_, rfl, _, rfl, ?_⟩
          refine lcD_ix0 _ ((x.cps.toList.map fun c => decide (97 ≤ c) && decide (c ≤ 122)).map .bl) (by unfold chD; simp) (by unfold chD; rw [List.length_map]; show x.length ≤ _; omega) (fun k k1 k2 R hR => ?_) ⟨_, rfl, ?_⟩
          · simp only [chD, List.getElem_map] at hR ⊢
            have a1 : (!ltS ⟨#[x.cps.toList[k]'(by simpa [chD] using k1)]⟩ "a") = decide (97 ≤ x.cps.toList[k]'(by simpa [chD] using k1)) := by
              rw [show ("a" : Str) = ⟨#[97]⟩ from by decide +kernel, lt_one, Bool.eq_iff_iff]
              simp
            have a2 : (!ltS "z" ⟨#[x.cps.toList[k]'(by simpa [chD] using k1)]⟩) = decide (x.cps.toList[k]'(by simpa [chD] using k1) ≤ 122) := by
              rw [show ("z" : Str) = ⟨#[122]⟩ from by decide +kernel, lt_one, Bool.eq_iff_iff]
              simp
            refine ⟨_, rfl, _, rfl, ite2 (fun h3 => ?_) (fun h3 => ?_)⟩
            · have h3 : (!ltS ⟨#[x.cps.toList[k]'(by simpa [chD] using k1)]⟩ "a") = true := h3
              rw [a1] at h3
              rw [h3, Bool.true_and] at hR
              show R (.bl (!ltS "z" ⟨#[x.cps.toList[k]'(by simpa [chD] using k1)]⟩))
              rw [a2]
              exact hR
            · have h3 : ¬ (!ltS ⟨#[x.cps.toList[k]'(by simpa [chD] using k1)]⟩ "a") = true := h3
              rw [a1] at h3
              rw [Bool.eq_false_iff.mpr h3, Bool.false_and] at hR
              exact hR
          · have e : isName (.str x) = ((x.cps.toList.map fun c => decide (97 ≤ c) && decide (c ≤ 122)).all id) := by
              show nameS x = _
              unfold nameS
              rw [decide_eq_true (show 1 ≤ x.length by omega), decide_eq_true (show x.length ≤ 8 by omega), Bool.true_and, Bool.true_and, List.all_map]
              rfl
            rw [e] at q
            exact q
      · have h1' : ¬ (1 : Int) ≤ x.length := fun z => h1 (decide_eq_true z)
        have e : isName (.str x) = false := by
          show nameS x = false
          unfold nameS
          rw [show decide (1 ≤ x.length) = false from decide_eq_false (by omega)]
          rfl
        rw [e] at q
        exact ⟨_, rfl, (if_pos rfl).mpr q⟩
    · obtain ⟨t, k1, k2⟩ := kit_str hd no
      rw [isName_no no] at q
      exact ⟨_, rfl, t, false, k1, k2, _, rfl, (if_pos rfl).mpr ((if_pos rfl).mpr q)⟩
end
end K37
namespace K37
open PySem PySem.Spec PyProof.Rows L2 Pd
def texts : List Da → List Str
  | [] => []
  | .str x :: xs => x :: texts xs
  | _ :: xs => texts xs
theorem texts_map : ∀ ts : List Str, texts (ts.map .str) = ts
  | [] => rfl
  | t :: ts => by rw [List.map_cons, texts, texts_map ts]
theorem names_strs : ∀ {xs : List Da}, xs.all isName = true → ∃ ts : List Str, xs = ts.map .str ∧ ∀ t ∈ ts, nameS t = true
  | [], _ => ⟨[], rfl, fun _ h => by cases h⟩
  | d :: xs, h => by
    rw [List.all_cons, Bool.and_eq_true] at h
    obtain ⟨ts, rfl, h2⟩ := names_strs h.2
    rcases str_or d with ⟨x, rfl⟩ | no
    · refine ⟨x :: ts, rfl, fun t ht => ?_⟩
      rcases List.mem_cons.mp ht with e | e
      · rw [e]; exact h.1
      · exact h2 t e
    · rw [isName_no no] at h
      cases h.1
theorem name_asc {x : Str} (h : nameS x = true) : ∀ c ∈ x.cps.toList, c < 128 := fun c hc => by
  unfold nameS at h
  rw [Bool.and_eq_true, Bool.and_eq_true, List.all_eq_true] at h
  have := h.2.2 c hc
  rw [Bool.and_eq_true, decide_eq_true_eq, decide_eq_true_eq] at this
  omega
theorem names_asc {ts : List Str} (h : ∀ t ∈ ts, nameS t = true) : Asc' ts := fun t ht => name_asc (h t ht)
def thingsOf : List Da → Bool := fun xs => sortedS (texts xs) && decide (texts xs).Nodup
def areThings : Da → Bool
  | .tup xs => areNames 6 (.tup xs) && thingsOf xs
  | _ => false
def isSum : Da → Bool
  | .tup xs => areNames 3 (.tup xs) && sortedS (texts xs)
  | _ => false
def isPair : Da → Bool
  | .tup [x, y] => isSum x && isSum y
  | _ => false
def words : List Str := ["alike", "heavier", "unlike"]
def isTelling : Da → Bool
  | .tup [.str v, x, y] => decide (v ∈ words) && isPair (.tup [x, y])
  | _ => false
def pAN : DSp := fun ds Q => ∃ d, ∃ m : Nat, ds = [d, .int (m : Nat)] ∧ okD d = true ∧ Q (.bl (areNames m d))
theorem pAN_mo : MoP pAN := fun _ _ _ q ⟨d, m, a, b, z⟩ => ⟨d, m, a, b, q _ z⟩
theorem ok_tup {xs : List Da} (h : okD (.tup xs) = true) : xs.length ≤ 60 ∧ okDs xs = true := by
  rw [okD, Bool.and_eq_true, decide_eq_true_eq] at h
  exact h
section
variable {C : Addr} {P : Program} {wd : World} {K : PySem.W.Frag} {mg : Str → Option Value} {base : Heap}
theorem okp_are_names (T : Txt K mg C) : Calld P wd K mg base 2 "_are_names" ["thing", "most"] pAN := by
  refine defC T.dp_are_names scp_are_names ?_ pAN_mo ?_
  · rintro ds Q ⟨d, m, rfl, _⟩
    rfl
  · rintro f cdv A outer s0 H E w ds Q hr hG ⟨d, m, rfl, hd, q⟩
    refine ⟨_, (psd_cons (psd_if (PWd.pt (pwd_or (ptd_not (ptd_val (ped_isi (T := "tuple") T.m_isinstance (ped_var 0) T.m_tuple (by decide +kernel)))) (pwd_or1 (ptd_gt (ped_len T.m_len (pad_cons (ped_var 0) pad_nil)) (ped_var 1))))) (psd_one (psd_ret ped_bl)) psd_nil)
    (psd_one (psd_ret (ped_all T.m_all (pad_cons (ped_lc (own := [("part", 2)]) scp_are_names.nd (pid_tup (ped_var 0)) (blkOk_by (own := [("part", 2)]) (N := Np_are_names) (sc := defScope sp_are_names) (by decide +kernel)) (gd_name 2) (gName_mo 2) (by decide) (fun _ _ _ _ _ => (pg_name (i := 2) scp_are_names.nd rfl (Or.inl rfl))) (fun _ _ _ _ _ => ptsd_nil) (fun _ _ _ _ _ => (ped_f ((okp_is_name T).up (by decide)) hr hG (pad_cons (ped_var 2) pad_nil))) s0) pad_nil))))), ?_⟩
    rcases tup_or d with ⟨xs, rfl⟩ | no
    · obtain ⟨few, all⟩ := ok_tup hd
      refine ⟨_, rfl, _, true, rfl, by decide +kernel, _, rfl, (if_neg (by decide)).mpr ?_⟩
      refine ⟨_, rfl, _, rfl, .inl ⟨_, rfl, _, rfl, _, rfl, ite2 (fun h => ?_) (fun h => ?_)⟩⟩
      · have h1 : (m : Int) < (xs.length : Nat) := of_decide_eq_true h
        have e : areNames m (.tup xs) = false := by
          show (decide (xs.length ≤ m) && _) = false
          rw [decide_eq_false (by omega)]
          rfl
        rw [e] at q
        exact q
      · have h1 : ¬ (m : Int) < (xs.length : Nat) := fun z => h (decide_eq_true z)
        refine ⟨_, rfl, _, rfl, ?_⟩
        refine lcD_ix0 _ ((xs.map isName).map .bl) (by simp) (by omega) (fun k k1 k2 R hR => ?_) ⟨_, rfl, ?_⟩
        · simp only [List.getElem_map] at hR
          exact ⟨_, rfl, _, rfl, okDs_mem all (List.getElem_mem k1), hR⟩
        · have e : areNames m (.tup xs) = (xs.map isName).all id := by
            show (decide (xs.length ≤ m) && xs.all isName) = _
            rw [decide_eq_true (show xs.length ≤ m by omega), Bool.true_and, List.all_map]
            rfl
          rw [e] at q
          exact q
    · obtain ⟨t, k1, k2⟩ := kit_tup hd no
      rw [areNames_no no] at q
      exact ⟨_, rfl, t, false, k1, k2, _, rfl, (if_pos rfl).mpr ((if_pos rfl).mpr q)⟩
theorem okp_are_things (T : Txt K mg C) : Calld P wd K mg base 3 "are_things" ["thing"] (pOf areThings) := by
  obtain ⟨_, g_things⟩ := T.m_MOST_THINGS
  refine defC T.dp_are_things scp_are_things ?_ pOf_mo ?_
  · rintro ds Q ⟨d, rfl, _⟩
    rfl
  · rintro f cdv A outer s0 H E w ds Q hr hG ⟨d, rfl, hd, q⟩
    refine ⟨_, (psd_one (psd_ret (ped_and (ped_f ((okp_are_names T).up (by decide)) hr hG (pad_cons (ped_var 0) (pad_cons (ped_gint g_things) pad_nil))) (ped_one (ped_eq hr (ped_lstF T.m_list (pad_cons (ped_var 0) pad_nil)) (ped_sortedSet T.m_sorted T.m_set (ped_var 0))))))), ?_⟩
    refine ⟨_, rfl, d, 6, rfl, hd, _, rfl, ite2 (fun h => ?_) (fun h => ?_)⟩
    · rcases tup_or d with ⟨xs, rfl⟩ | no
      · have h' := h
        unfold areNames at h'
        rw [Bool.and_eq_true, decide_eq_true_eq] at h'
        obtain ⟨ts, rfl, hn⟩ := names_strs h'.2
        rw [List.length_map] at h'
        refine ⟨_, rfl, _, _, rfl, rfl, _, rfl, ts, rfl, by omega, fun ks nd mem srt => ?_⟩
        have asck : Asc' ks := fun t ht => names_asc hn t ((mem t).mp ht)
        refine ⟨shp_lstrs (names_asc hn), shp_lstrs asck, ?_⟩
        rw [if_neg Bool.false_ne_true, eqd_lstrs]
        have e : areThings (.tup (ts.map .str)) = decide (ts = ks) := by
          show (areNames 6 (.tup (ts.map .str)) && (sortedS (texts (ts.map .str)) && decide (texts (ts.map .str)).Nodup)) = _
          rw [h, Bool.true_and, texts_map, Bool.eq_iff_iff, Bool.and_eq_true, decide_eq_true_eq, decide_eq_true_eq]
          constructor
          · rintro ⟨a, b⟩
            exact sorted_uniq a srt (perm_nd b nd fun k => (mem k).symm)
          · rintro rfl
            exact ⟨srt, nd⟩
        rw [e] at q
        exact q
      · rw [areNames_no no] at h
        cases h
    · have e : areThings d = false := by
        cases d with
        | tup xs =>
          show (areNames 6 (.tup xs) && _) = false
          rw [Bool.eq_false_iff.mpr h]
          rfl
        | _ => rfl
      rw [e] at q
      exact q
theorem okp_is_sum (T : Txt K mg C) : Calld P wd K mg base 3 "is_sum" ["thing"] (pOf isSum) := by
  obtain ⟨_, g_names⟩ := T.m_MOST_NAMES
  refine defC T.dp_is_sum scp_is_sum ?_ pOf_mo ?_
  · rintro ds Q ⟨d, rfl, _⟩
    rfl
  · rintro f cdv A outer s0 H E w ds Q hr hG ⟨d, rfl, hd, q⟩
    refine ⟨_, (psd_one (psd_ret (ped_and (ped_f ((okp_are_names T).up (by decide)) hr hG (pad_cons (ped_var 0) (pad_cons (ped_gint g_names) pad_nil))) (ped_one (ped_eq hr (ped_lstF T.m_list (pad_cons (ped_var 0) pad_nil)) (ped_sortedTup T.m_sorted (ped_var 0))))))), ?_⟩
    refine ⟨_, rfl, d, 3, rfl, hd, _, rfl, ite2 (fun h => ?_) (fun h => ?_)⟩
    · rcases tup_or d with ⟨xs, rfl⟩ | no
      · have h' := h
        unfold areNames at h'
        rw [Bool.and_eq_true, decide_eq_true_eq] at h'
        obtain ⟨ts, rfl, hn⟩ := names_strs h'.2
        rw [List.length_map] at h'
        refine ⟨_, rfl, _, _, rfl, rfl, _, rfl, ts, rfl, by omega, fun ks pm srt => ?_⟩
        have asck : Asc' ks := fun t ht => names_asc hn t (pm.mem_iff.mp ht)
        refine ⟨shp_lstrs (names_asc hn), shp_lstrs asck, ?_⟩
        rw [if_neg Bool.false_ne_true, eqd_lstrs]
        have e : isSum (.tup (ts.map .str)) = decide (ts = ks) := by
          show (areNames 3 (.tup (ts.map .str)) && sortedS (texts (ts.map .str))) = _
          rw [h, Bool.true_and, texts_map, Bool.eq_iff_iff, decide_eq_true_eq]
          constructor
          · intro a
            exact sorted_uniq a srt pm.symm
          · rintro rfl
            exact srt
        rw [e] at q
        exact q
      · rw [areNames_no no] at h
        cases h
    · have e : isSum d = false := by
        cases d with
        | tup xs =>
          show (areNames 3 (.tup xs) && _) = false
          rw [Bool.eq_false_iff.mpr h]
          rfl
        | _ => rfl
      rw [e] at q
      exact q
end
end K37
namespace K37
open PySem PySem.Spec PyProof.Rows L2 Pd
theorem len2 {xs : List Da} (h : xs.length = 2) : ∃ x y, xs = [x, y] := by
  match xs, h with
  | [x, y], _ => exact ⟨x, y, rfl⟩
theorem len3 {xs : List Da} (h : xs.length = 3) : ∃ v x y, xs = [v, x, y] := by
  match xs, h with
  | [v, x, y], _ => exact ⟨v, x, y, rfl⟩
theorem isPair_no {xs : List Da} (h : xs.length ≠ 2) : isPair (.tup xs) = false := by
  match xs, h with
  | [], _ => rfl
  | [_], _ => rfl
  | [_, _], h => exact absurd rfl h
  | _ :: _ :: _ :: _, _ => rfl
theorem isTelling_no {xs : List Da} (h : xs.length ≠ 3) : isTelling (.tup xs) = false := by
  unfold isTelling
  split
  · rename_i e
    cases e
    exact absurd rfl h
  · rfl
theorem isTelling_no2 {v x y : Da} (h : ∀ t, v ≠ .str t) : isTelling (.tup [v, x, y]) = false := by
  unfold isTelling
  split
  · rename_i e
    cases e
    exact absurd rfl (h _)
  · rfl
section
variable {C : Addr} {P : Program} {wd : World} {K : PySem.W.Frag} {mg : Str → Option Value} {base : Heap}
theorem ne_len {xs : List Da} (n : Nat) (z : Int) (e : z = (n : Nat)) : (if true = true then !eqd (.int ((xs.length : Nat) : Int)) (.int z) else eqd (.int ((xs.length : Nat) : Int)) (.int z)) = !decide (xs.length = n) := by
  subst e
  rw [if_pos rfl, eqd_int]
  congr 1
  rw [Bool.eq_iff_iff, beq_iff_eq, decide_eq_true_eq]
  omega
theorem okp_is_pair (T : Txt K mg C) : Calld P wd K mg base 4 "is_pair" ["thing"] (pOf isPair) := by
  refine defC T.dp_is_pair scp_is_pair ?_ pOf_mo ?_
  · rintro ds Q ⟨d, rfl, _⟩
    rfl
  · rintro f cdv A outer s0 H E w ds Q hr hG ⟨d, rfl, hd, q⟩
    refine ⟨_, (psd_cons (psd_if (PWd.pt (pwd_or (ptd_not (ptd_val (ped_isi (T := "tuple") T.m_isinstance (ped_var 0) T.m_tuple (by decide +kernel)))) (pwd_or1 (ptd_ne hr (ped_len T.m_len (pad_cons (ped_var 0) pad_nil)) ped_int)))) (psd_one (psd_ret ped_bl)) psd_nil)
    (psd_one (psd_ret (ped_and (ped_f ((okp_is_sum T).up (by decide)) hr hG (pad_cons (ped_at (fun _ _ => rfl) (ped_var 0) ped_int) pad_nil)) (ped_one (ped_f ((okp_is_sum T).up (by decide)) hr hG (pad_cons (ped_at (fun _ _ => rfl) (ped_var 0) ped_int) pad_nil))))))), ?_⟩
    rcases tup_or d with ⟨xs, rfl⟩ | no
    · obtain ⟨few, all⟩ := ok_tup hd
      refine ⟨_, rfl, _, true, rfl, by decide +kernel, _, rfl, (if_neg (by decide)).mpr ?_⟩
      refine ⟨_, rfl, _, rfl, .inl ⟨_, rfl, shp_int _, shp_int _, _, rfl, ?_⟩⟩
      rw [ne_len 2 2 rfl]
      by_cases h : xs.length = 2
      · rw [decide_eq_true h]
        refine (if_neg (by decide)).mpr ?_
        obtain ⟨x, y, rfl⟩ := len2 h
        have hx : okD x = true := okDs_mem all List.mem_cons_self
        have hy : okD y = true := okDs_mem all (List.mem_cons_of_mem _ List.mem_cons_self)
        refine ⟨_, rfl, x, rfl, x, rfl, hx, _, rfl, ite2 (fun h => ?_) (fun h => ?_)⟩
        · refine ⟨_, rfl, y, rfl, y, rfl, hy, ?_⟩
          have e : isPair (.tup [x, y]) = isSum y := by
            show (isSum x && isSum y) = _
            rw [h, Bool.true_and]
          rw [e] at q
          exact q
        · have e : isPair (.tup [x, y]) = false := by
            show (isSum x && isSum y) = _
            rw [Bool.eq_false_iff.mpr h, Bool.false_and]
          rw [e] at q
          exact q
      · rw [decide_eq_false h]
        refine (if_pos rfl).mpr ?_
        rw [isPair_no h] at q
        exact q
    · obtain ⟨t, k1, k2⟩ := kit_tup hd no
      have e : isPair d = false := by
        cases d with
        | tup x => exact absurd rfl (no x)
        | _ => rfl
      rw [e] at q
      exact ⟨_, rfl, t, false, k1, k2, _, rfl, (if_pos rfl).mpr ((if_pos rfl).mpr q)⟩
theorem okp_is_telling (T : Txt K mg C) : Calld P wd K mg base 5 "is_telling" ["thing"] (pOf isTelling) := by
  obtain ⟨_, g_words, g_wordsT⟩ := T.m_WORDS
  refine defC T.dp_is_telling scp_is_telling ?_ pOf_mo ?_
  · rintro ds Q ⟨d, rfl, _⟩
    rfl
  · rintro f cdv A outer s0 H E w ds Q hr hG ⟨d, rfl, hd, q⟩
    refine ⟨_, (psd_cons (psd_if (PWd.pt (pwd_or (ptd_not (ptd_val (ped_isi (T := "tuple") T.m_isinstance (ped_var 0) T.m_tuple (by decide +kernel)))) (pwd_or1 (ptd_ne hr (ped_len T.m_len (pad_cons (ped_var 0) pad_nil)) ped_int)))) (psd_one (psd_ret ped_bl)) psd_nil)
    (psd_one (psd_ret (ped_and (ped_isi (T := "str") T.m_isinstance (ped_at (fun _ _ => rfl) (ped_var 0) ped_int) T.m_str (by decide +kernel)) (ped_and (ped_in (ped_at (fun _ _ => rfl) (ped_var 0) ped_int) (ped_gstrs g_words g_wordsT)) (ped_one (ped_f ((okp_is_pair T).up (by decide)) hr hG (pad_cons (ped_slice (ped_var 0) (pod_some ped_int) pod_none) pad_nil)))))))), ?_⟩
    rcases tup_or d with ⟨xs, rfl⟩ | no
    · obtain ⟨few, all⟩ := ok_tup hd
      refine ⟨_, rfl, _, true, rfl, by decide +kernel, _, rfl, (if_neg (by decide)).mpr ?_⟩
      refine ⟨_, rfl, _, rfl, .inl ⟨_, rfl, shp_int _, shp_int _, _, rfl, ?_⟩⟩
      rw [ne_len 3 3 rfl]
      by_cases h : xs.length = 3
      · rw [decide_eq_true h]
        refine (if_neg (by decide)).mpr ?_
        obtain ⟨v, x, y, rfl⟩ := len3 h
        have hv : okD v = true := okDs_mem all List.mem_cons_self
        have hx : okD x = true := okDs_mem all (List.mem_cons_of_mem _ List.mem_cons_self)
        have hy : okD y = true := okDs_mem all (List.mem_cons_of_mem _ (List.mem_cons_of_mem _ List.mem_cons_self))
        rcases str_or v with ⟨t, rfl⟩ | nos
        · refine ⟨_, rfl, .str t, rfl, _, true, rfl, by decide +kernel, _, rfl, (if_pos rfl).mpr ?_⟩
          refine ⟨_, rfl, .str t, rfl, t, words, rfl, rfl, _, rfl, ite2 (fun h => ?_) (fun h => ?_)⟩
          · refine ⟨_, rfl, 1, rfl, .tup [x, y], rfl, ?_, ?_⟩
            · rw [okD, okDs, okDs, okDs, hx, hy]
              rfl
            · have e : isTelling (.tup [.str t, x, y]) = isPair (.tup [x, y]) := by
                show (decide (t ∈ words) && isPair (.tup [x, y])) = _
                rw [show decide (t ∈ words) = true from h, Bool.true_and]
              rw [e] at q
              exact q
          · have e : isTelling (.tup [.str t, x, y]) = false := by
              show (decide (t ∈ words) && isPair (.tup [x, y])) = _
              rw [show decide (t ∈ words) = false from Bool.eq_false_iff.mpr h, Bool.false_and]
            rw [e] at q
            exact q
        · obtain ⟨t, k1, k2⟩ := kit_str hv nos
          rw [isTelling_no2 nos] at q
          exact ⟨_, rfl, v, rfl, t, false, k1, k2, _, rfl, (if_neg (by decide)).mpr q⟩
      · rw [decide_eq_false h]
        refine (if_pos rfl).mpr ?_
        rw [isTelling_no h] at q
        exact q
    · obtain ⟨t, k1, k2⟩ := kit_tup hd no
      have e : isTelling d = false := by
        cases d with
        | tup x => exact absurd rfl (no x)
        | _ => rfl
      rw [e] at q
      exact ⟨_, rfl, t, false, k1, k2, _, rfl, (if_pos rfl).mpr ((if_pos rfl).mpr q)⟩
end
end K37
namespace K37
open PySem in
def abc : Str := "abcdefghijklmnopqrstuvwxyz"
open PySem PySem.Spec PyProof.Rows L2 Pd
section
variable {C : Addr} {P : Program} {wd : World} {K : PySem.W.Frag} {mg : Str → Option Value} {base : Heap}
/-! ### what is drawn -/
theorem log_small {n : Int} (h : 0 < n) (h2 : n ≤ 1000000000000) : n.natAbs.log2 < 9000 := Nat.lt_trans (log2_of (k := 40) (by omega) (by decide)) (by decide)
def ixOf : Da → Bool
  | .lst _ => true
  | .tup _ => true
  | _ => false
/-- texts of plain letters -/
def Asc (ts : List Str) : Prop := ∀ t ∈ ts, ∀ c ∈ t.cps.toList, c < 128
theorem Asc.shp {ts : List Str} (h : Asc ts) : shp (strsD ts) = true := by
  have z : ∀ ts : List Str, Asc ts → PyData.canLayAll0 (toPs (ts.map .str)) = true := by
    intro ts
    induction ts with
    | nil => intro _; rw [List.map_nil, toPs, PyData.canLayAll0]
    | cons x xs ih =>
      intro h
      have hx := (sz_str (h x List.mem_cons_self)).lay
      rw [List.map_cons, toPs, PyData.canLayAll0, hx, ih fun t ht => h t (List.mem_cons_of_mem _ ht)]
      rfl
  have d := dep_strs ts
  unfold Pd.shp SeqAt.shaped
  rw [canP, canP_strs, toP, PyData.canLay0, z ts h, PyData.depth, decide_eq_true (show _ ≤ _ from by omega)]
  rfl
theorem atD {xs : List Da} {r : Int} (h1 : 0 ≤ r) (h2 : r.toNat < xs.length) : L2.atI xs r = some xs[r.toNat] := by
  have e : r = ((r.toNat : Nat) : Int) := by omega
  have z := at_da h2
  rw [← e] at z
  exact z
def pOne : DSp := fun ds Q => ∃ x xs, ds = [.bag, x] ∧ seqOf x = some xs ∧ ixOf x = true ∧ xs ≠ [] ∧ xs.length ≤ 63 ∧ ∀ d ∈ xs, Q d
theorem pOne_mo : MoP pOne := fun _ _ _ q ⟨x, xs, e, a, b, c, d, z⟩ => ⟨x, xs, e, a, b, c, d, fun t h => q _ (z t h)⟩
theorem ok_one (T : Txt K mg C) : Calld P wd K mg base 2 "_law_one" ["_law_bag_here", "_law_things_here"] pOne := by
  refine defC T.d_one sc_one ?_ pOne_mo ?_
  · rintro ds Q ⟨x, xs, rfl, _⟩
    rfl
  · rintro f cdv A outer s0 H E w ds Q hr hG ⟨x, xs, rfl, hs, hi, ne, hl, q⟩
    refine ⟨_, (psd_one (psd_ret (ped_at (fun _ _ => rfl) (ped_var 1) (ped_f ((ok_take T).up (by decide)) hr hG (pad_cons (ped_var 0) (pad_cons (ped_len T.m_len (pad_cons (ped_var 1) pad_nil)) pad_nil)))))), ?_⟩
    have hp : 0 < xs.length := List.length_pos_iff.mpr ne
    refine ⟨_, rfl, _, rfl, _, rfl, _, rfl, .inl ⟨xs, hs, _, rfl, by omega, log_small (by omega) (by omega), fun r h1 h2 => ?_⟩⟩
    have h3 : r.toNat < xs.length := by omega
    have z := atD (xs := xs) h1 h3
    have m := q _ (List.getElem_mem h3)
    cases x with
    | lst ys => cases hs; exact ⟨_, z, m⟩
    | tup ys => cases hs; exact ⟨_, z, m⟩
    | _ => cases hi
theorem all_strs {F : Str → Prop} : ∀ {ys : List Da}, (∀ y ∈ ys, ∃ t, y = .str t ∧ F t) → ∃ b : List Str, ys = b.map .str ∧ ∀ t ∈ b, F t
  | [], _ => ⟨[], rfl, fun _ h => by cases h⟩
  | y :: ys, h => by
    obtain ⟨b, rfl, hb⟩ := all_strs (ys := ys) fun z hz => h z (List.mem_cons_of_mem _ hz)
    obtain ⟨t, rfl, ht⟩ := h y List.mem_cons_self
    refine ⟨t :: b, rfl, fun s hs => ?_⟩
    rcases List.mem_cons.mp hs with e | e
    · rw [e]; exact ht
    · exact hb s e
theorem all_ints {F : Int → Prop} : ∀ {ys : List Da}, (∀ y ∈ ys, ∃ t, y = .int t ∧ F t) → ∃ b : List Int, ys = b.map .int ∧ ∀ t ∈ b, F t
  | [], _ => ⟨[], rfl, fun _ h => by cases h⟩
  | y :: ys, h => by
    obtain ⟨b, rfl, hb⟩ := all_ints (ys := ys) fun z hz => h z (List.mem_cons_of_mem _ hz)
    obtain ⟨t, rfl, ht⟩ := h y List.mem_cons_self
    refine ⟨t :: b, rfl, fun s hs => ?_⟩
    rcases List.mem_cons.mp hs with e | e
    · rw [e]; exact ht
    · exact hb s e
/-- a sum of some of the texts -/
structure SumOf (ts a : List Str) : Prop where
  mem : ∀ t ∈ a, t ∈ ts
  len : a.length ≤ 3
  srt : sortedS a = true
/-- some of the texts -/
def pSum : DSp := fun ds Q => ∃ (ts : List Str) (m : Int), ds = [.bag, strsD ts, .int m] ∧ Asc ts ∧ ts.length ≤ 63 ∧ 0 ≤ m ∧ m ≤ 3 ∧ ∀ a : List Str, SumOf ts a → Q (strsD a)
theorem pSum_mo : MoP pSum := fun _ _ _ q ⟨ts, m, e, a, b, c, d, z⟩ => ⟨ts, m, e, a, b, c, d, fun t h => q _ (z t h)⟩
theorem ok_sum (T : Txt K mg C) : Calld P wd K mg base 3 "_law_sum" ["_law_bag_here", "_law_things_here", "_law_many"] pSum := by
  refine defC T.d_sum sc_sum ?_ pSum_mo ?_
  · rintro ds Q ⟨ts, m, rfl, _⟩
    rfl
  · rintro f cdv A outer s0 H E w ds Q hr hG ⟨ts, m, rfl, ha, hl, m0, m1, q⟩
    refine ⟨_, (psd_cons (psd_if (ptd_eq hr (ped_var 1) (ped_tup pad_nil)) (psd_one (psd_ret (ped_tup pad_nil))) psd_nil)
    (psd_one (psd_ret (ped_tupF T.m_tuple (pad_cons (ped_sorted hr T.m_sorted (pad_cons (ped_lc (own := [("_law_k", 3)]) sc_sum.nd (pid_range T.m_range (ped_var 2)) (blkOk_by (own := [("_law_k", 3)]) (N := N_sum) (sc := defScope s_sum) (by decide +kernel)) (gd_name 3) (gName_mo 3) (by decide) (fun _ _ _ _ _ => (pg_name (i := 3) sc_sum.nd rfl (Or.inl rfl))) (fun _ _ _ _ _ => ptsd_nil) (fun _ _ _ _ _ => (ped_f ((ok_one T).up (by decide)) hr hG (pad_cons (ped_var 0) (pad_cons (ped_var 1) pad_nil)))) s0) pad_nil)) pad_nil))))), ?_⟩
    refine ⟨_, rfl, by decide, ha.shp, shp_unit, _, rfl, ?_⟩
    rw [eqd_tupNil]
    cases ts with
    | nil => exact (if_pos rfl).mpr ⟨by decide, q [] ⟨(fun _ h => nomatch h), (by decide), rfl⟩⟩
    | cons t0 tr =>
      refine (if_neg Bool.false_ne_true).mpr ?_
      refine ⟨_, rfl, m, rfl, by omega, by omega, ?_⟩
      refine lcD_all (fun d y => ∃ t, y = .str t ∧ t ∈ t0 :: tr) _ [] (by rw [rngD_len]; simp; omega) (fun d hd R hR => ?_) fun ys hy => ?_
      · exact ⟨_, rfl, _, rfl, _, _, rfl, rfl, rfl, by simp, by rw [List.length_map]; exact hl, fun d hd => by
          obtain ⟨t, ht, rfl⟩ := List.mem_map.mp hd
          exact hR _ ⟨t, rfl, ht⟩⟩
      · have lb := paired_len hy
        rw [rngD_len] at lb
        obtain ⟨b, rfl, hb⟩ := all_strs (F := fun t => t ∈ t0 :: tr) fun y hy' => by
          obtain ⟨x, _, z⟩ := paired_mem hy hy'
          exact z
        rw [List.length_map] at lb
        obtain ⟨c, e, p, so⟩ := srt_strsS (a := b)
        refine ⟨_, _, rfl, rfl, srtOk_strs (by omega), _, rfl, .inl ⟨_, rfl, ?_⟩⟩
        rw [List.nil_append, e]
        exact q c ⟨fun t ht => hb t (p.mem_iff.mp ht), by rw [p.length_eq]; omega, so⟩
/-- two of these -/
def pPair : DSp := fun ds Q => ∃ ts : List Str, ds = [.bag, strsD ts] ∧ Asc ts ∧ ts.length ≤ 63 ∧ ∀ a b : List Str, SumOf ts a → SumOf ts b → Q (.tup [strsD a, strsD b])
theorem pPair_mo : MoP pPair := fun _ _ _ q ⟨ts, e, a, b, z⟩ => ⟨ts, e, a, b, fun t t' h1 h2 => q _ (z t t' h1 h2)⟩
theorem ok_pair (T : Txt K mg C) : Calld P wd K mg base 4 "_law_pair" ["_law_bag_here", "_law_things_here"] pPair := by
  refine defC T.d_pair sc_pair ?_ pPair_mo ?_
  · rintro ds Q ⟨ts, rfl, _⟩
    rfl
  · rintro f cdv A outer s0 H E w ds Q hr hG ⟨ts, rfl, ha, hl, q⟩
    refine ⟨_, (psd_cons (psd_par (i := 2) (j := 3) (ped_at (fun _ _ => rfl) (ped_lst (pad_cons ped_int (pad_cons ped_int (pad_cons ped_int (pad_cons ped_int pad_nil))))) (ped_f ((ok_take T).up (by decide)) hr hG (pad_cons (ped_var 0) (pad_cons ped_int pad_nil)))) (ped_f ((ok_take T).up (by decide)) hr hG (pad_cons (ped_var 0) (pad_cons ped_int pad_nil))) sc_pair.nd)
    (psd_cons (psd_set (i := 4) (ped_f ((ok_sum T).up (by decide)) hr hG (pad_cons (ped_var 0) (pad_cons (ped_var 1) (pad_cons (ped_var 2) pad_nil)))) sc_pair.nd)
    (psd_cons (psd_if (ptd_eq hr (ped_var 3) ped_int) (psd_one (psd_ret (ped_tup (pad_cons (ped_var 4) (pad_cons (ped_f ((ok_sum T).up (by decide)) hr hG (pad_cons (ped_var 0) (pad_cons (ped_var 1) (pad_cons (ped_f ((ok_take T).up (by decide)) hr hG (pad_cons (ped_var 0) (pad_cons ped_int pad_nil))) pad_nil)))) pad_nil))))) psd_nil)
    (psd_cons (psd_if (ptd_eq hr (ped_var 3) ped_int) (psd_one (psd_ret (ped_tup (pad_cons (ped_f ((ok_sum T).up (by decide)) hr hG (pad_cons (ped_var 0) (pad_cons (ped_var 1) (pad_cons (ped_f ((ok_take T).up (by decide)) hr hG (pad_cons (ped_var 0) (pad_cons ped_int pad_nil))) pad_nil)))) (pad_cons (ped_var 4) pad_nil))))) psd_nil)
    (psd_one (psd_ret (ped_tup (pad_cons (ped_var 4) (pad_cons (ped_ifExp (ptd_eq hr (ped_var 3) ped_int) (ped_var 4) (ped_f ((ok_sum T).up (by decide)) hr hG (pad_cons (ped_var 0) (pad_cons (ped_var 1) (pad_cons (ped_var 2) pad_nil))))) pad_nil))))))))), ?_⟩
    refine ⟨by decide, _, rfl, _, rfl, by decide, by decide, fun r1 a1 a2 => ?_⟩
    obtain ⟨m, hm, m0, m1⟩ : ∃ m : Int, L2.atI [Da.int 2, .int 1, .int 2, .int 3] r1 = some (.int m) ∧ 0 ≤ m ∧ m ≤ 3 := by
      have : r1 = 0 ∨ r1 = 1 ∨ r1 = 2 ∨ r1 = 3 := by omega
      rcases this with h | h | h | h
      · subst h; exact ⟨2, rfl, by decide, by decide⟩
      · subst h; exact ⟨1, rfl, by decide, by decide⟩
      · subst h; exact ⟨2, rfl, by decide, by decide⟩
      · subst h; exact ⟨3, rfl, by decide, by decide⟩
    refine ⟨_, hm, _, rfl, _, rfl, by decide, by decide, fun r2 b1 b2 => ?_⟩
    refine ⟨_, rfl, _, rfl, _, rfl, ts, m, rfl, ha, hl, m0, m1, fun a ha1 => ?_⟩
    refine ⟨_, rfl, shp_int _, shp_int _, _, rfl, ite2 (fun h => ?_) (fun h => ?_)⟩
    · refine ⟨_, rfl, _, rfl, _, rfl, _, rfl, _, rfl, by decide, by decide, fun r3 c1 c2 => ?_⟩
      exact ⟨ts, r3, rfl, ha, hl, c1, by omega, fun b hb1 => ⟨show 2 ≤ sizeLine by decide, q a b ha1 hb1⟩⟩
    · refine ⟨_, rfl, shp_int _, shp_int _, _, rfl, ite2 (fun h => ?_) (fun h => ?_)⟩
      · refine ⟨_, rfl, _, rfl, _, rfl, _, rfl, by decide, by decide, fun r3 c1 c2 => ?_⟩
        exact ⟨ts, r3, rfl, ha, hl, c1, by omega, fun b hb1 => ⟨_, rfl, show 2 ≤ sizeLine by decide, q b a hb1 ha1⟩⟩
      · refine ⟨_, rfl, _, rfl, shp_int _, shp_int _, _, rfl, ite2 (fun h => ?_) (fun h => ?_)⟩
        · exact ⟨_, rfl, show 2 ≤ sizeLine by decide, q a a ha1 ha1⟩
        · exact ⟨_, rfl, _, rfl, _, rfl, ts, m, rfl, ha, hl, m0, m1, fun b hb1 => ⟨show 2 ≤ sizeLine by decide, q a b ha1 hb1⟩⟩
end
/-- ascending different names -/
structure Good (ts : List Str) : Prop where
  nd : ts.Nodup
  srt : sortedS ts = true
  nm : ∀ t ∈ ts, nameS t = true
def menu : List Str := ["alike", "heavier", "unlike", "strike", "undo", "redo", "word", "why", "so", "ab", "abc", "a", "z", "zzzzzzzz", "things", "on"]
theorem menu_split : Txt.split "alike heavier unlike strike undo redo word why so ab abc a z zzzzzzzz things on" " " = menu := by decide +kernel
def aas (m : Nat) : List Str := (List.range m).map fun k : Nat => cutS ("aaaaaaaa" : Str) none (some (((k : Nat) : Int) + 1))
def ltr (j : Nat) : Str := ⟨#[abc.cps.toList.getD j 0]⟩
def stemOf (w t : Nat) : Str := if w = 3 then ltr t else if w = 4 then "zzzzzzz" else ""
def lets (w t m : Nat) : List Str := (List.range m).map fun k => stemOf w t ++ ltr ((t + 3 * k) % 26)
theorem stem_len (w t : Nat) : (stemOf w t).length ≤ 7 := by
  unfold stemOf
  split
  · exact (by decide : 1 ≤ 7)
  · split
    · decide
    · decide
theorem menu_nd : menu.Nodup := by decide +kernel
theorem menu_asc : ∀ t ∈ menu, nameS t = true := by decide +kernel
theorem aas_ok : ∀ m < 7, (aas m).Nodup ∧ sortedS (aas m) = true ∧ ∀ t ∈ aas m, nameS t = true := by decide +kernel
theorem lets_ok : ∀ w < 5, ∀ t < 16, ∀ m < 7, (lets w t m).Nodup ∧ ∀ s ∈ lets w t m, nameS s = true := by decide +kernel
section
variable {C : Addr} {P : Program} {wd : World} {K : PySem.W.Frag} {mg : Str → Option Value} {base : Heap}
theorem rot_nd (t m : Nat) : ((menu.drop t ++ menu.take t).take m).Nodup := by
  have p : (menu.drop t ++ menu.take t).Perm menu := List.perm_append_comm.trans (by rw [List.take_append_drop])
  exact (p.nodup_iff.mpr menu_nd).sublist (List.take_sublist _ _)
theorem rot_mem {t m : Nat} {x : Str} (h : x ∈ (menu.drop t ++ menu.take t).take m) : x ∈ menu := by
  have p : (menu.drop t ++ menu.take t).Perm menu := List.perm_append_comm.trans (by rw [List.take_append_drop])
  exact p.mem_iff.mp (List.mem_of_mem_take h)
theorem letAt {j : Nat} (h : j < 26) : L2.atI abc.cps.toList ((j : Nat) : Int) = some (abc.cps.toList.getD j 0) := by
  refine L2.atI_nat ?_
  have l : abc.cps.toList.length = 26 := by decide +kernel
  rw [List.getElem?_eq_getElem (by omega)]
  exact congrArg some (List.getElem_eq_getD 0)
/-- up to six things -/
def pThings : DSp := fun ds Q => ∃ m : Nat, ds = [.bag, .int (m : Nat)] ∧ m ≤ 6 ∧ ∀ ts : List Str, Good ts → ts.length ≤ m → Q (strsD ts)
theorem pThings_mo : MoP pThings := fun _ _ _ q ⟨m, e, h, z⟩ => ⟨m, e, h, fun ts h1 h2 => q _ (z ts h1 h2)⟩
theorem ok_things (T : Txt K mg C) : Calld P wd K mg base 2 "_law_things" ["_law_bag_here", "_law_many"] pThings := by
  refine defC T.d_things sc_things ?_ pThings_mo ?_
  · rintro ds Q ⟨m, rfl, _⟩
    rfl
  · rintro f cdv A outer s0 H E w ds Q hr hG ⟨m, rfl, hm, q⟩
    refine ⟨_, (psd_cons (psd_set (i := 2) (ped_split ped_str ped_str) sc_things.nd)
    (psd_cons (psd_asg (ped_tup (pad_cons (ped_f ((ok_take T).up (by decide)) hr hG (pad_cons (ped_var 0) (pad_cons ped_int pad_nil))) (pad_cons (ped_f ((ok_take T).up (by decide)) hr hG (pad_cons (ped_var 0) (pad_cons ped_int pad_nil))) pad_nil))) (pg_tup rfl (pgs_cons (pg_name (i := 3) sc_things.nd rfl (Or.inl rfl)) (pgs_cons (pg_name (i := 4) sc_things.nd rfl (Or.inr rfl)) pgs_nil))) (gd_tup2 3 4) (gTup_mo (gCons_mo (gName_mo 3) (gCons_mo (gName_mo 4) gNil_mo))))
    (psd_cons (psd_if (ptd_eq hr (ped_var 3) ped_int) (psd_one (psd_ret (ped_tupF T.m_tuple (pad_cons (ped_sorted hr T.m_sorted (pad_cons (ped_slice (ped_add (ped_slice (ped_var 2) (pod_some (ped_var 4)) pod_none) (ped_slice (ped_var 2) pod_none (pod_some (ped_var 4)))) pod_none (pod_some (ped_var 1))) pad_nil)) pad_nil)))) psd_nil)
    (psd_cons (psd_if (ptd_eq hr (ped_var 3) ped_int) (psd_one (psd_ret (ped_tupF T.m_tuple (pad_cons (ped_lc (own := [("_law_k", 7)]) sc_things.nd (pid_range T.m_range (ped_var 1)) (blkOk_by (own := [("_law_k", 7)]) (N := N_things) (sc := defScope s_things) (by decide +kernel)) (gd_name 7) (gName_mo 7) (by decide) (fun _ _ _ _ _ => (pg_name (i := 7) sc_things.nd rfl (Or.inl rfl))) (fun _ _ _ _ _ => ptsd_nil) (fun _ _ _ _ _ => (ped_slice ped_str pod_none (pod_some (ped_add (ped_var 7) ped_int)))) s0) pad_nil)))) psd_nil)
    (psd_cons (psd_set (i := 5) ped_str sc_things.nd)
    (psd_cons (psd_set (i := 6) (ped_at (fun _ _ => rfl) (ped_lst (pad_cons ped_str (pad_cons ped_str (pad_cons (ped_at (fun _ _ => rfl) (ped_var 5) (ped_var 4)) (pad_cons ped_str pad_nil))))) (ped_sub (ped_var 3) ped_int)) sc_things.nd)
    (psd_one (psd_ret (ped_tupF T.m_tuple (pad_cons (ped_sorted hr T.m_sorted (pad_cons (ped_lc (own := [("_law_k", 7)]) sc_things.nd (pid_range T.m_range (ped_var 1)) (blkOk_by (own := [("_law_k", 7)]) (N := N_things) (sc := defScope s_things) (by decide +kernel)) (gd_name 7) (gName_mo 7) (by decide) (fun _ _ _ _ _ => (pg_name (i := 7) sc_things.nd rfl (Or.inl rfl))) (fun _ _ _ _ _ => ptsd_nil) (fun _ _ _ _ _ => (ped_add (ped_var 6) (ped_at (fun _ _ => rfl) (ped_var 5) (ped_mod (ped_intF T.m_int (pad_cons (ped_add (ped_var 4) (ped_mul ped_int (ped_var 7))) pad_nil)) ped_int)))) s0) pad_nil)) pad_nil)))))))))), ?_⟩
    refine ⟨_, rfl, _, rfl, by decide +kernel, by decide +kernel, ?_⟩
    rw [menu_split]
    have srted : ∀ a : List Str, a.Nodup → (∀ t ∈ a, nameS t = true) → a.length ≤ m → srtOk (a.map .str) ∧ ∃ b : List Str, srt (a.map .str) = b.map .str ∧ Good b ∧ b.length ≤ m := fun a h1 h2 h3 => by
      obtain ⟨b, e, p, so⟩ := srt_strsS (a := a)
      exact ⟨srtOk_strs (by omega), b, e, ⟨p.nodup_iff.mpr h1, so, fun t ht => h2 t (p.mem_iff.mp ht)⟩, by rw [p.length_eq]; exact h3⟩
    refine ⟨_, rfl, _, rfl, by decide, by decide, fun r1 a1 a2 => ⟨_, rfl, _, rfl, by decide, by decide, fun r2 b1 b2 => ⟨show 2 ≤ sizeLine by decide, _, _, rfl, ?_⟩⟩⟩
    obtain ⟨w', rfl⟩ := Int.eq_ofNat_of_zero_le a1
    obtain ⟨t, rfl⟩ := Int.eq_ofNat_of_zero_le b1
    have hw : w' < 5 := by omega
    have ht : t < 16 := by omega
    refine ⟨_, rfl, shp_int _, shp_int _, _, rfl, ite2 (fun h => ?_) (fun h => ?_)⟩
    · -- some of the menu
      have l1 : ((menu.drop t ++ menu.take t).take m).length ≤ m := by rw [List.length_take]; omega
      obtain ⟨s1, b, e, n1, n3⟩ := srted _ (rot_nd t m) (fun x hx => menu_asc x (rot_mem hx)) l1
      have e1 : cutD (menu.map .str) (some (t : Int)) none = (menu.drop t).map .str := by
        rw [cutD_from _ (by rw [List.length_map]; exact Nat.le_of_lt ht), List.map_drop]
      have e2 : cutD (menu.map .str) none (some (t : Int)) = (menu.take t).map .str := by rw [cutD_to, List.map_take]
      have e3 : cutD ((menu.drop t).map .str ++ (menu.take t).map .str) none (some (m : Int)) = ((menu.drop t ++ menu.take t).take m).map .str := by rw [cutD_to, ← List.map_append, List.map_take]
      refine ⟨_, rfl, _, rfl, _, rfl, _, rfl, _, rfl, _, rfl, ?_⟩
      dsimp only [slD]
      rw [e1, e2]
      refine ⟨?_, _, rfl, _, rfl, ?_⟩
      · rw [List.length_map, List.length_map, List.length_drop, List.length_take, sizeLine_eq]
        have : menu.length = 16 := rfl
        omega
      · dsimp only [slD]
        rw [e3]
        refine ⟨_, _, rfl, rfl, s1, _, rfl, .inl ⟨_, rfl, ?_⟩⟩
        rw [e]
        exact q b n1 n3
    · refine ⟨_, rfl, shp_int _, shp_int _, _, rfl, ite2 (fun h => ?_) (fun h => ?_)⟩
      · -- letters alone
        have ok := aas_ok m (by omega)
        refine ⟨_, rfl, _, rfl, by omega, by omega, ?_⟩
        rw [Int.toNat_natCast]
        refine lcD_ix _ ((aas m).map .str) [] (by rw [rngD_len]; simp [aas]) (by rw [rngD_len]; simp; omega) (fun k h1 h2 R hR => ?_) ⟨_, rfl, .inl ⟨_, rfl, q _ ⟨ok.1, ok.2.1, ok.2.2⟩ (by simp [aas])⟩⟩
        rw [rngD_get]
        simp only [List.getElem_map, aas, List.getElem_range] at hR
        exact ⟨_, rfl, _, rfl, by decide, hR⟩
      · have hw2 : 2 ≤ w' := by
          rw [eqd_int] at *
          have n0 : w' ≠ 0 := fun z => by subst z; simp_all
          have n1 : w' ≠ 1 := fun z => by subst z; simp_all
          omega
        have ok := lets_ok w' hw t ht m (by omega)
        obtain ⟨s1, b, e, n1, n3⟩ := srted _ ok.1 ok.2 (by simp [lets])
        have hs : L2.atI [Da.str "", .str "", .str (ltr t), .str "zzzzzzz"] ((fun i j => i - j) (w' : Int) 1) = some (.str (stemOf w' t)) := by
          have : w' = 2 ∨ w' = 3 ∨ w' = 4 := by omega
          rcases this with z | z | z
          · subst z; rfl
          · subst z; rfl
          · subst z; rfl
        refine ⟨_, rfl, _, rfl, by decide, _, letAt (by omega), show 4 ≤ sizeLine by decide, _, rfl, True.intro, _, hs, ?_⟩
        refine ⟨_, rfl, _, rfl, by omega, by omega, ?_⟩
        rw [Int.toNat_natCast]
        refine lcD_ix _ ((lets w' t m).map .str) [] (by rw [rngD_len]; simp [lets]) (by rw [rngD_len]; simp; omega) (fun k h1 h2 R hR => ?_) ?_
        · rw [rngD_len] at h1
          rw [rngD_get]
          simp only [List.getElem_map, lets, List.getElem_range] at hR
          have e2 : (fun i j => i % j) ((t : Int) + (fun i j => i * j) 3 ((k : Nat) : Int)) 26 = (((t + 3 * k) % 26 : Nat) : Int) := by
            show ((t : Int) + 3 * (k : Int)) % 26 = _
            omega
          refine ⟨_, rfl, _, rfl, _, rfl, _, rfl, cmul_small' ⟨by omega, by omega⟩, .inl ⟨_, rfl, show (0 : Int) < 26 by decide, ?_⟩⟩
          rw [e2]
          refine ⟨by decide, _, letAt (Nat.mod_lt _ (by decide)), ?_, hR⟩
          have l1 := stem_len w' t
          have l2 : (ltr ((t + 3 * k) % 26)).length = 1 := rfl
          have l3 : (stemOf w' t).length + (ltr ((t + 3 * k) % 26)).length ≤ sizeLine := by rw [sizeLine_eq]; omega
          exact l3
        · refine ⟨_, _, rfl, rfl, s1, _, rfl, .inl ⟨_, rfl, ?_⟩⟩
          rw [List.nil_append, e]
          exact q b n1 n3
end
end K37
namespace K37
open PySem PySem.Spec PyProof.Rows L2 Pd
/-! ### tellings, worths -/
/-- a telling -/
structure Tl where
  w : Str
  a : List Str
  b : List Str
def tlD (t : Tl) : Da := .tup [.str t.w, strsD t.a, strsD t.b]
structure GoodT (ts : List Str) (t : Tl) : Prop where
  w : t.w ∈ words
  a : SumOf ts t.a
  b : SumOf ts t.b
theorem all_tls {F : Tl → Prop} : ∀ {ys : List Da}, (∀ y ∈ ys, ∃ t, y = tlD t ∧ F t) → ∃ b : List Tl, ys = b.map tlD ∧ ∀ t ∈ b, F t
  | [], _ => ⟨[], rfl, fun _ h => by cases h⟩
  | y :: ys, h => by
    obtain ⟨b, rfl, hb⟩ := all_tls (ys := ys) fun z hz => h z (List.mem_cons_of_mem _ hz)
    obtain ⟨t, rfl, ht⟩ := h y List.mem_cons_self
    refine ⟨t :: b, rfl, fun s hs => ?_⟩
    rcases List.mem_cons.mp hs with e | e
    · rw [e]; exact ht
    · exact hb s e
theorem noL_sum (a : List Str) : noL (strsD a) = true := by
  show noL (.tup (a.map .str)) = true
  rw [noL]
  exact noL_strs a
theorem noL_tl (t : Tl) : noL (tlD t) = true := by
  show noL (.tup [.str t.w, strsD t.a, strsD t.b]) = true
  rw [noL, noLs, noLs, noLs, noLs, noL, noL_sum, noL_sum]
  rfl
theorem noLs_tls (ts : List Tl) : noLs (ts.map tlD) = true := by
  induction ts with
  | nil => rfl
  | cons x a ih => rw [List.map_cons, noLs, noL_tl, ih]; rfl
theorem Good.asc {ts : List Str} (h : Good ts) : Asc ts := fun t ht => name_asc (h.nm t ht)
section
variable {C : Addr} {P : Program} {wd : World} {K : PySem.W.Frag} {mg : Str → Option Value} {base : Heap}
def pWorths : DSp := fun ds Q => ∃ (ts : List Str) (lo hi : Int), ds = [.bag, strsD ts, .int lo, .int hi] ∧ ts.Nodup ∧ ts.length ≤ 63 ∧ lo ≤ hi ∧ hi - lo ≤ 1000000 ∧ ∀ w : Str → Int, (∀ t ∈ ts, lo ≤ w t ∧ w t ≤ hi) → Q (.dct (wD ts fun t => .int (w t)))
theorem pWorths_mo : MoP pWorths := fun _ _ _ q ⟨ts, lo, hi, e, a, b, c, d, z⟩ => ⟨ts, lo, hi, e, a, b, c, d, fun w h => q _ (z w h)⟩
theorem ok_worths (T : Txt K mg C) : Calld P wd K mg base 2 "_law_worths" ["_law_bag_here", "_law_things_here", "_law_low", "_law_high"] pWorths := by
  refine defC T.d_worths sc_worths ?_ pWorths_mo ?_
  · rintro ds Q ⟨ts, lo, hi, rfl, _⟩
    rfl
  · rintro f cdv A outer s0 H E w ds Q hr hG ⟨ts, lo, hi, rfl, nd, hl, h1, h2, q⟩
    refine ⟨_, (psd_one (psd_ret (ped_dict T.m_dict (pad_cons (ped_lc (own := [("_law_name", 4)]) sc_worths.nd (pid_tup (ped_var 1)) (blkOk_by (own := [("_law_name", 4)]) (N := N_worths) (sc := defScope s_worths) (by decide +kernel)) (gd_name 4) (gName_mo 4) (by decide) (fun _ _ _ _ _ => (pg_name (i := 4) sc_worths.nd rfl (Or.inl rfl))) (fun _ _ _ _ _ => ptsd_nil) (fun _ _ _ _ _ => (ped_tup (pad_cons (ped_var 4) (pad_cons (ped_add (ped_var 2) (ped_f ((ok_take T).up (by decide)) hr hG (pad_cons (ped_var 0) (pad_cons (ped_add (ped_sub (ped_var 3) (ped_var 2)) ped_int) pad_nil)))) pad_nil)))) s0) pad_nil)))), ?_⟩
    refine ⟨_, rfl, _, rfl, ?_⟩
    refine lcD_all (fun d y => ∃ t i, d = .str t ∧ y = .tup [.str t, .int i] ∧ lo ≤ i ∧ i ≤ hi) _ [] (by simp; omega) (fun d hd R hR => ?_) fun ys hy => ?_
    · obtain ⟨t, _, rfl⟩ := List.mem_map.mp hd
      exact ⟨_, rfl, _, rfl, _, rfl, _, rfl, _, rfl, True.intro, _, rfl, (show 0 < hi - lo + 1 by omega), log_small (show 0 < hi - lo + 1 by omega) (show hi - lo + 1 ≤ 1000000000000 by omega), fun r c1 (c2 : r < hi - lo + 1) => ⟨show 2 ≤ sizeLine by decide, hR _ ⟨t, lo + r, rfl, rfl, by omega, by omega⟩⟩⟩
    · obtain ⟨wf, hw, rfl⟩ := paired_fun (F := fun _ i => lo ≤ i ∧ i ≤ hi) nd hy
      refine ⟨wD ts fun t => .int (wf t), ?_, ?_⟩
      · unfold wD
        rw [List.map_map]
        rfl
      · rw [mergeD_w nd]
        exact q wf hw
end
end K37
namespace K37
open PySem PySem.Spec PyProof.Rows L2 Pd
theorem wD_keys (ts : List Str) (f : Str → Da) : (wD ts f).map (·.1) = ts.map Sum.inr := by
  unfold wD
  rw [List.map_map]
  rfl
theorem dcK_w {gd : TDG} {tt : TDT} {tk tv : TDE} {vs : List Nat} {r : En} {k : List (Key × Da) → Prop} (f : Str → Da) : ∀ (ts acc : List Str), (acc ++ ts).Nodup → acc.length + ts.length ≤ sizeLine →
    (∀ t ∈ ts, ∀ (R : Da → Da → Prop) (Z : Prop), R (.str t) (f t) → gd (.str t) (wipeD r vs) fun r2 => tt r2 fun b => if b = true then tk r2 fun y => tv r2 fun z => R y z else Z) →
    k (wD (acc ++ ts) f) → dcK gd tt tk tv vs r k (ts.map .str) (wD acc f)
  | [], acc, _, _, _, q => by rw [List.append_nil] at q; exact q
  | t :: ts, acc, nd, hl, st, q => by
    rw [List.length_cons] at hl
    refine st t List.mem_cons_self (fun y z => ∃ key, y = kD key ∧ (wD acc f).length < sizeLine ∧ dcK gd tt tk tv vs r k (ts.map .str) (putD (wD acc f) key z)) _ ⟨.inr t, rfl, by unfold wD; rw [List.length_map]; omega, ?_⟩
    have e : acc ++ t :: ts = (acc ++ [t]) ++ ts := by rw [List.append_assoc]; rfl
    have nt : (Sum.inr t : Key) ∉ (wD acc f).map (·.1) := fun z => by
      rw [wD_keys] at z
      obtain ⟨u, hu, eu⟩ := List.mem_map.mp z
      cases eu
      have := (List.nodup_append.mp nd).2.2 t hu t List.mem_cons_self
      exact this rfl
    have ew : wD acc f ++ [(.inr t, f t)] = wD (acc ++ [t]) f := by unfold wD; rw [List.map_append]; rfl
    rw [putD_new nt, ew]
    rw [e] at nd q
    exact dcK_w f ts (acc ++ [t]) nd (by rw [List.length_append]; show acc.length + 1 + ts.length ≤ _; omega) (fun t ht => st t (List.mem_cons_of_mem _ ht)) q
theorem noLk_w (ts : List Str) (f : Str → Int) : noLk (wD ts fun t => .int (f t)) = true := by
  unfold wD
  induction ts with
  | nil => rfl
  | cons t ts ih => rw [List.map_cons, noLk, ih]; rfl
section
variable {C : Addr} {P : Program} {wd : World} {K : PySem.W.Frag} {mg : Str → Option Value} {base : Heap}
/-! ### worths of sums -/
def pWorth : DSp := fun ds Q => ∃ (ts : List Str) (w : Str → Int) (a : List Str), ds = [.dct (wD ts fun t => .int (w t)), strsD a] ∧ (∀ t ∈ a, t ∈ ts) ∧ a.length ≤ 63 ∧ Q (.int (a.map w).sum)
theorem pWorth_mo : MoP pWorth := fun _ _ _ q ⟨ts, w, a, e, h, h', z⟩ => ⟨ts, w, a, e, h, h', q _ z⟩
theorem okp_worth (T : Txt K mg C) : Calld P wd K mg base 1 "worth" ["worths", "one"] pWorth := by
  refine defC T.dp_worth scp_worth ?_ pWorth_mo ?_
  · rintro ds Q ⟨ts, w, a, rfl, _⟩
    rfl
  · rintro f cdv A outer s0 H E w ds Q hr hG ⟨ts, wf, a, rfl, h, hl, q⟩
    refine ⟨_, (psd_one (psd_ret (ped_sumB T.m_sum (pad_cons (ped_lc (own := [("name", 2)]) scp_worth.nd (pid_tup (ped_var 1)) (blkOk_by (own := [("name", 2)]) (N := Np_worth) (sc := defScope sp_worth) (by decide +kernel)) (gd_name 2) (gName_mo 2) (by decide) (fun _ _ _ _ _ => (pg_name (i := 2) scp_worth.nd rfl (Or.inl rfl))) (fun _ _ _ _ _ => ptsd_nil) (fun _ _ _ _ _ => (ped_dget hr (ped_var 0) (ped_var 2))) s0) pad_nil)))), ?_⟩
    refine ⟨_, rfl, _, rfl, ?_⟩
    refine lcD_ix _ ((a.map wf).map .int) [] (by simp) (by simp; omega) (fun k h1 h2 R hR => ?_) ⟨_, _, rfl, rfl, q⟩
    simp only [List.getElem_map] at hR ⊢
    have hk : k < a.length := by rwa [List.length_map] at h1
    exact ⟨_, rfl, _, rfl, _, .inr a[k], _, rfl, rfl, valD_w (h _ (List.getElem_mem hk)), hR⟩
/-- how a difference stands -/
def wordOf (i : Int) : Str := if i = 0 then "alike" else if i > 0 then "heavier" else "lighter"
def pWordIn : DSp := fun ds Q => ∃ (ts : List Str) (w : Str → Int) (a b : List Str), ds = [.dct (wD ts fun t => .int (w t)), .tup [strsD a, strsD b]] ∧ (∀ t ∈ a, t ∈ ts) ∧ (∀ t ∈ b, t ∈ ts) ∧ a.length ≤ 63 ∧ b.length ≤ 63 ∧ Q (.str (wordOf ((a.map w).sum - (b.map w).sum)))
theorem pWordIn_mo : MoP pWordIn := fun _ _ _ q ⟨ts, w, a, b, e, h, h', h2, h3, z⟩ => ⟨ts, w, a, b, e, h, h', h2, h3, q _ z⟩
theorem okp_word_in (T : Txt K mg C) : Calld P wd K mg base 2 "word_in" ["worths", "pair"] pWordIn := by
  refine defC T.dp_word_in scp_word_in ?_ pWordIn_mo ?_
  · rintro ds Q ⟨ts, w, a, b, rfl, _⟩
    rfl
  · rintro f cdv A outer s0 H E w ds Q hr hG ⟨ts, wf, a, b, rfl, ha, hb, la, lb, q⟩
    refine ⟨_, (psd_cons (psd_set (i := 2) (ped_sub (ped_f ((okp_worth T).up (by decide)) hr hG (pad_cons (ped_var 0) (pad_cons (ped_at (fun _ _ => rfl) (ped_var 1) ped_int) pad_nil))) (ped_f ((okp_worth T).up (by decide)) hr hG (pad_cons (ped_var 0) (pad_cons (ped_at (fun _ _ => rfl) (ped_var 1) ped_int) pad_nil)))) scp_word_in.nd)
    (psd_cons (psd_if (ptd_eq hr (ped_var 2) ped_int) (psd_one (psd_ret ped_str)) psd_nil)
    (psd_one (psd_ret (ped_ifExp (ptd_gt (ped_var 2) ped_int) ped_str ped_str))))), ?_⟩
    refine ⟨_, rfl, _, rfl, _, rfl, ts, wf, a, rfl, ha, la, _, rfl, _, rfl, _, rfl, ts, wf, b, rfl, hb, lb, True.intro, ?_⟩
    refine ⟨_, rfl, shp_int _, shp_int _, _, rfl, ite2 (fun h => ?_) (fun h => ?_)⟩
    · rw [eqd_int] at h
      have e : (a.map wf).sum - (b.map wf).sum = 0 := by simpa using h
      unfold wordOf at q
      rw [if_pos e] at q
      exact q
    · have e : ¬ (a.map wf).sum - (b.map wf).sum = 0 := fun z => by
        refine h ?_
        rw [eqd_int]
        simpa using z
      unfold wordOf at q
      rw [if_neg e] at q
      refine ⟨_, rfl, _, rfl, ite2 (fun h2 => ?_) (fun h2 => ?_)⟩
      · rw [if_pos (by simpa using h2)] at q
        exact q
      · rw [if_neg (by simpa using h2)] at q
        exact q
/-! ### looks at worths -/
def pAreW : DSp := fun ds Q => ∃ (ts us : List Str) (w : Str → Int), ds = [strsD ts, .dct (wD us fun t => .int (w t))] ∧ us.Perm ts ∧ ts.length ≤ 63 ∧ Q (.bl true)
theorem pAreW_mo : MoP pAreW := fun _ _ _ q ⟨ts, us, w, e, a, b, z⟩ => ⟨ts, us, w, e, a, b, q _ z⟩
theorem wD_len (us : List Str) (f : Str → Da) : (wD us f).length = us.length := by unfold wD; rw [List.length_map]
theorem okp_are_worths (T : Txt K mg C) : Calld P wd K mg base 2 "are_worths" ["things", "thing"] pAreW := by
  refine defC T.dp_are_worths scp_are_worths ?_ pAreW_mo ?_
  · rintro ds Q ⟨ts, us, w, rfl, _⟩
    rfl
  · rintro f cdv A outer s0 H E w ds Q hr hG ⟨ts, us, wf, rfl, pm, hl, q⟩
    refine ⟨_, (psd_cons (psd_if (PWd.pt (pwd_or (ptd_not (ptd_val (ped_isi (T := "dict") T.m_isinstance (ped_var 1) T.m_dict (by decide +kernel)))) (pwd_or1 (ptd_ne hr (ped_lenK T.m_len (pad_cons (ped_var 1) pad_nil)) (ped_len T.m_len (pad_cons (ped_var 0) pad_nil)))))) (psd_one (psd_ret ped_bl)) psd_nil)
    (psd_one (psd_ret (ped_all T.m_all (pad_cons (ped_lc (own := [("name", 2)]) scp_are_worths.nd (pid_tup (ped_var 0)) (blkOk_by (own := [("name", 2)]) (N := Np_are_worths) (sc := defScope sp_are_worths) (by decide +kernel)) (gd_name 2) (gName_mo 2) (by decide) (fun _ _ _ _ _ => (pg_name (i := 2) scp_are_worths.nd rfl (Or.inl rfl))) (fun _ _ _ _ _ => ptsd_nil) (fun _ _ _ _ _ => (ped_and (ped_inK hr (ped_var 2) (ped_var 1)) (ped_one (ped_f ((okp_is_integer T).up (by decide)) hr hG (pad_cons (ped_dget hr (ped_var 1) (ped_var 2)) pad_nil))))) s0) pad_nil))))), ?_⟩
    refine ⟨_, rfl, _, true, rfl, by decide +kernel, _, rfl, (if_neg (by decide)).mpr ?_⟩
    refine ⟨_, rfl, _, rfl, _, rfl, _, rfl, .inl ⟨_, rfl, shp_int _, shp_int _, _, rfl, ?_⟩⟩
    have e : ((wD us fun t => Da.int (wf t)).length : Int) = ((ts.map Da.str).length : Nat) := by rw [wD_len, List.length_map, pm.length_eq]
    rw [e, if_pos rfl, eqd_int, beq_self_eq_true]
    refine (if_neg (by decide)).mpr ?_
    refine ⟨_, rfl, _, rfl, ?_⟩
    refine lcD_mapM Da.str (fun _ => Da.bl true) ts (by omega) (fun t ht R hR => ?_) ?_
    · have hv := valD_w (f := fun t => Da.int (wf t)) (pm.mem_iff.mpr ht)
      exact ⟨_, rfl, _, rfl, t, _, _, rfl, rfl, hv, _, rfl, (if_pos rfl).mpr ⟨_, rfl, _, rfl, _, .inr t, _, rfl, rfl, hv, _, rfl, rfl, hR⟩⟩
    · refine ⟨ts.map fun _ => true, by rw [List.map_map]; rfl, ?_⟩
      have e2 : (ts.map fun _ => true).all id = true := by
        rw [List.all_map, List.all_eq_true]
        intro _ _
        rfl
      rw [e2]
      exact q
end
end K37
namespace K37
open PySem PySem.Spec PyProof.Rows L2 Pd
/-- a telling's sums stand in some things -/
def standsB (ts : List Str) (t : Tl) : Bool := (t.a ++ t.b).all fun x => decide (x ∈ ts)
def soB (w : Str) (l r : Int) : Bool := if w = "heavier" then decide (l > r) else (decide (l = r) == decide (w = "alike"))
theorem name_len {x : Str} (h : nameS x = true) : x.length ≤ 8 := by
  unfold nameS at h
  rw [Bool.and_eq_true, Bool.and_eq_true, decide_eq_true_eq, decide_eq_true_eq] at h
  exact h.2.1
theorem okDs_strs {a : List Str} (h : ∀ x ∈ a, nameS x = true) : okDs (a.map .str) = true := by
  induction a with
  | nil => rfl
  | cons x a ih =>
    have hx := name_len (h x List.mem_cons_self)
    rw [List.map_cons, okDs, okD, ih fun y hy => h y (List.mem_cons_of_mem _ hy), decide_eq_true (by omega : x.length ≤ 16777216)]
    rfl
theorem okD_sum {ts a : List Str} (g : Good ts) (s : SumOf ts a) : okD (strsD a) = true := by
  show okD (.tup (a.map .str)) = true
  have h := s.len
  rw [okD, okDs_strs fun x hx => g.nm x (s.mem x hx), List.length_map, decide_eq_true (by omega : a.length ≤ 60)]
  rfl
theorem word_len : ∀ w ∈ words, w.length ≤ 7 := by decide +kernel
theorem okD_tl {ts : List Str} {t : Tl} (g : Good ts) (h : GoodT ts t) : okD (tlD t) = true := by
  show okD (.tup [.str t.w, strsD t.a, strsD t.b]) = true
  have hw := word_len _ h.w
  rw [okD, okDs, okDs, okDs, okDs, okD, okD_sum g h.a, okD_sum g h.b, decide_eq_true (by omega : t.w.length ≤ 16777216)]
  rfl
theorem isSum_ok {ts a : List Str} (g : Good ts) (s : SumOf ts a) : isSum (strsD a) = true := by
  show (areNames 3 (.tup (a.map .str)) && sortedS (texts (a.map .str))) = true
  rw [texts_map, s.srt, Bool.and_true]
  show (decide ((a.map Da.str).length ≤ 3) && (a.map Da.str).all isName) = true
  rw [List.length_map, decide_eq_true s.len, Bool.true_and, List.all_map, List.all_eq_true]
  intro x hx
  exact g.nm x (s.mem x hx)
theorem isTelling_ok {ts : List Str} {t : Tl} (g : Good ts) (h : GoodT ts t) : isTelling (tlD t) = true := by
  show (decide (t.w ∈ words) && (isSum (strsD t.a) && isSum (strsD t.b))) = true
  rw [decide_eq_true h.w, isSum_ok g h.a, isSum_ok g h.b]
  rfl
theorem stands_ok {ts : List Str} {t : Tl} (h : GoodT ts t) : standsB ts t = true := by
  unfold standsB
  rw [List.all_eq_true]
  intro x hx
  rcases List.mem_append.mp hx with z | z
  · exact decide_eq_true (h.a.mem x z)
  · exact decide_eq_true (h.b.mem x z)
theorem areThings_ok {ts : List Str} (g : Good ts) (hl : ts.length ≤ 6) : areThings (strsD ts) = true := by
  show (areNames 6 (.tup (ts.map .str)) && (sortedS (texts (ts.map .str)) && decide (texts (ts.map .str)).Nodup)) = true
  rw [texts_map, g.srt, decide_eq_true g.nd, Bool.and_true, Bool.and_true]
  show (decide ((ts.map Da.str).length ≤ 6) && (ts.map Da.str).all isName) = true
  rw [List.length_map, decide_eq_true hl, Bool.true_and, List.all_map, List.all_eq_true]
  intro x hx
  exact g.nm x hx
theorem okD_things {ts : List Str} (g : Good ts) (hl : ts.length ≤ 6) : okD (strsD ts) = true := by
  show okD (.tup (ts.map .str)) = true
  rw [okD, okDs_strs g.nm, List.length_map, decide_eq_true (by omega : ts.length ≤ 60)]
  rfl
section
variable {C : Addr} {P : Program} {wd : World} {K : PySem.W.Frag} {mg : Str → Option Value} {base : Heap}
def pWithin : DSp := fun ds Q => ∃ a ts : List Str, ds = [strsD a, strsD ts] ∧ a.length ≤ 63 ∧ Q (.bl (a.all fun x => decide (x ∈ ts)))
theorem pWithin_mo : MoP pWithin := fun _ _ _ q ⟨a, ts, e, h, z⟩ => ⟨a, ts, e, h, q _ z⟩
theorem okp_is_within (T : Txt K mg C) : Calld P wd K mg base 1 "is_within" ["less", "one"] pWithin := by
  refine defC T.dp_is_within scp_is_within ?_ pWithin_mo ?_
  · rintro ds Q ⟨a, ts, rfl, _⟩
    rfl
  · rintro f cdv A outer s0 H E w ds Q hr hG ⟨a, ts, rfl, hl, q⟩
    refine ⟨_, (psd_one (psd_ret (ped_all T.m_all (pad_cons (ped_lc (own := [("part", 2)]) scp_is_within.nd (pid_tup (ped_var 0)) (blkOk_by (own := [("part", 2)]) (N := Np_is_within) (sc := defScope sp_is_within) (by decide +kernel)) (gd_name 2) (gName_mo 2) (by decide) (fun _ _ _ _ _ => (pg_name (i := 2) scp_is_within.nd rfl (Or.inl rfl))) (fun _ _ _ _ _ => ptsd_nil) (fun _ _ _ _ _ => (ped_in (ped_var 2) (ped_var 1))) s0) pad_nil)))), ?_⟩
    refine ⟨_, rfl, _, rfl, ?_⟩
    refine lcD_mapM Da.str (fun x => Da.bl (decide (x ∈ ts))) a (by omega) (fun t ht R hR => ?_) ?_
    · exact ⟨_, rfl, _, rfl, t, ts, rfl, rfl, hR⟩
    · refine ⟨a.map fun x => decide (x ∈ ts), by rw [List.map_map]; rfl, ?_⟩
      rw [List.all_map]
      exact q
def pStandsIn : DSp := fun ds Q => ∃ (ts : List Str) (t : Tl), ds = [strsD ts, tlD t] ∧ t.a.length ≤ 3 ∧ t.b.length ≤ 3 ∧ Q (.bl (standsB ts t))
theorem pStandsIn_mo : MoP pStandsIn := fun _ _ _ q ⟨a, ts, e, h, h', z⟩ => ⟨a, ts, e, h, h', q _ z⟩
theorem okp_stands_in (T : Txt K mg C) : Calld P wd K mg base 2 "_stands_in" ["things", "telling"] pStandsIn := by
  refine defC T.dp_stands_in scp_stands_in ?_ pStandsIn_mo ?_
  · rintro ds Q ⟨a, ts, rfl, _⟩
    rfl
  · rintro f cdv A outer s0 H E w ds Q hr hG ⟨ts, t, rfl, ha, hb, q⟩
    refine ⟨_, (psd_one (psd_ret (ped_f ((okp_is_within T).up (by decide)) hr hG (pad_cons (ped_add (ped_at (fun _ _ => rfl) (ped_var 1) ped_int) (ped_at (fun _ _ => rfl) (ped_var 1) ped_int)) (pad_cons (ped_var 0) pad_nil))))), ?_⟩
    refine ⟨_, rfl, strsD t.a, rfl, _, rfl, strsD t.b, rfl, ?_⟩
    refine ⟨?_, _, rfl, t.a ++ t.b, ts, ?_, ?_, q⟩
    · rw [List.length_map, List.length_map, sizeLine_eq]
      omega
    · show _ = [Da.tup ((t.a ++ t.b).map .str), _]
      rw [List.map_append]
    · rw [List.length_append]
      omega
def pTellOf : DSp := fun ds Q => ∃ (us ts : List Str) (t : Tl), ds = [strsD ts, tlD t] ∧ Good us ∧ GoodT us t ∧ Q (.bl (standsB ts t))
theorem pTellOf_mo : MoP pTellOf := fun _ _ _ q ⟨us, a, ts, e, h, h', z⟩ => ⟨us, a, ts, e, h, h', q _ z⟩
theorem okp_is_telling_of (T : Txt K mg C) : Calld P wd K mg base 6 "is_telling_of" ["things", "thing"] pTellOf := by
  refine defC T.dp_is_telling_of scp_is_telling_of ?_ pTellOf_mo ?_
  · rintro ds Q ⟨us, a, ts, rfl, _⟩
    rfl
  · rintro f cdv A outer s0 H E w ds Q hr hG ⟨us, ts, t, rfl, g, gt, q⟩
    refine ⟨_, (psd_one (psd_ret (ped_and (ped_f ((okp_is_telling T).up (by decide)) hr hG (pad_cons (ped_var 1) pad_nil)) (ped_one (ped_f ((okp_stands_in T).up (by decide)) hr hG (pad_cons (ped_var 0) (pad_cons (ped_var 1) pad_nil))))))), ?_⟩
    refine ⟨_, rfl, tlD t, rfl, okD_tl g gt, true, by rw [isTelling_ok g gt], (if_pos rfl).mpr ?_⟩
    exact ⟨_, rfl, _, rfl, ts, t, rfl, gt.a.len, gt.b.len, q⟩
def pAreTls : DSp := fun ds Q => ∃ (ts : List Str) (tls : List Tl) (x : Da), ds = [strsD ts, x] ∧ (x = .lst (tls.map tlD) ∨ x = .tup (tls.map tlD)) ∧ Good ts ∧ tls.length ≤ 63 ∧ (∀ t ∈ tls, GoodT ts t) ∧ Q (.bl true)
theorem pAreTls_mo : MoP pAreTls := fun _ _ _ q ⟨us, a, ts, e, h, h', h2, h3, z⟩ => ⟨us, a, ts, e, h, h', h2, h3, q _ z⟩
theorem okp_are_tellings (T : Txt K mg C) : Calld P wd K mg base 7 "_are_tellings" ["things", "thing"] pAreTls := by
  refine defC T.dp_are_tellings scp_are_tellings ?_ pAreTls_mo ?_
  · rintro ds Q ⟨us, a, ts, rfl, _⟩
    rfl
  · rintro f cdv A outer s0 H E w ds Q hr hG ⟨ts, tls, x, rfl, hx, g, hl, hg, q⟩
    refine ⟨_, (psd_one (psd_ret (ped_and (ped_isi2 (S := "list") (T := "tuple") T.m_isinstance (ped_var 1) T.m_list T.m_tuple (by decide +kernel) (by decide +kernel)) (ped_one (ped_all T.m_all (pad_cons (ped_lc (own := [("part", 2)]) scp_are_tellings.nd (pid_seq (ped_var 1)) (blkOk_by (own := [("part", 2)]) (N := Np_are_tellings) (sc := defScope sp_are_tellings) (by decide +kernel)) (gd_name 2) (gName_mo 2) (by decide) (fun _ _ _ _ _ => (pg_name (i := 2) scp_are_tellings.nd rfl (Or.inl rfl))) (fun _ _ _ _ _ => ptsd_nil) (fun _ _ _ _ _ => (ped_f ((okp_is_telling_of T).up (by decide)) hr hG (pad_cons (ped_var 0) (pad_cons (ped_var 2) pad_nil)))) s0) pad_nil)))))), ?_⟩
    obtain ⟨t, y, z, k1, k2, k3, k4⟩ : ∃ t y z, tyD x = some t ∧ kitB t "list" = some y ∧ kitB t "tuple" = some z ∧ (y || z) = true := by
      rcases hx with rfl | rfl
      · exact ⟨_, true, false, rfl, by decide +kernel, by decide +kernel, rfl⟩
      · exact ⟨_, false, true, rfl, by decide +kernel, by decide +kernel, rfl⟩
    refine ⟨_, rfl, t, y, z, k1, k2, k3, _, rfl, ?_⟩
    rw [k4]
    refine (if_pos rfl).mpr ⟨_, rfl, tls.map tlD, hx.imp id (fun e => by rw [e]; rfl), ?_⟩
    refine lcD_mapM tlD (fun _ => Da.bl true) tls (by omega) (fun t ht R hR => ?_) ?_
    · refine ⟨_, rfl, _, rfl, ts, ts, t, rfl, g, hg t ht, ?_⟩
      rw [stands_ok (hg t ht)]
      exact hR
    · refine ⟨tls.map fun _ => true, by rw [List.map_map]; rfl, ?_⟩
      have e2 : (tls.map fun _ => true).all id = true := by
        rw [List.all_map, List.all_eq_true]
        intro _ _
        rfl
      rw [e2]
      exact q
def pIsSo : DSp := fun ds Q => ∃ (w : Str) (l r : Int), ds = [.str w, .int l, .int r] ∧ w ∈ words ∧ Q (.bl (soB w l r))
theorem pIsSo_mo : MoP pIsSo := fun _ _ _ q ⟨us, a, ts, e, h, z⟩ => ⟨us, a, ts, e, h, q _ z⟩
theorem word_asc : ∀ w ∈ words, ∀ c ∈ w.cps.toList, c < 128 := by decide +kernel
theorem shp_asc {x : Str} (h : ∀ c ∈ x.cps.toList, c < 128) : shp (.str x) = true := (sz_str h).shp (by decide)
theorem shpB (b : Bool) : shp (.bl b) = true := (sz_bl b).shp (by decide)
theorem okp_is_so (T : Txt K mg C) : Calld P wd K mg base 1 "_is_so" ["word", "left", "right"] pIsSo := by
  refine defC T.dp_is_so scp_is_so ?_ pIsSo_mo ?_
  · rintro ds Q ⟨us, a, ts, rfl, _⟩
    rfl
  · rintro f cdv A outer s0 H E w ds Q hr hG ⟨wd', l, r, rfl, hw, q⟩
    refine ⟨_, (psd_cons (psd_if (ptd_eq hr (ped_var 0) ped_str) (psd_one (psd_ret (ped_gt (ped_var 1) (ped_var 2)))) psd_nil)
    (psd_one (psd_ret (ped_eq hr (ped_eq hr (ped_var 1) (ped_var 2)) (ped_eq hr (ped_var 0) ped_str))))), ?_⟩
    have s1 := shp_asc (word_asc _ hw)
    refine ⟨_, rfl, s1, shp_asc (by decide +kernel), _, rfl, ?_⟩
    rw [if_neg Bool.false_ne_true, eqd_str]
    unfold soB at q
    by_cases h : wd' = "heavier"
    · rw [if_pos h] at q
      rw [show (wd' == "heavier") = true from beq_iff_eq.mpr h]
      exact (if_pos rfl).mpr ⟨_, rfl, _, rfl, q⟩
    · rw [if_neg h] at q
      rw [show (wd' == "heavier") = false from beq_eq_false_iff_ne.mpr h]
      refine (if_neg Bool.false_ne_true).mpr ⟨_, rfl, _, rfl, shp_int _, shp_int _, _, rfl, s1, shp_asc (by decide +kernel), ?_⟩
      have e1 : eqd (.int l) (.int r) = decide (l = r) := by rw [eqd_int]; rfl
      have e2 : eqd (.str wd') (.str "alike") = decide (wd' = "alike") := by
        rw [eqd_str, Bool.eq_iff_iff, beq_iff_eq, decide_eq_true_eq]
      refine ⟨shpB _, shpB _, ?_⟩
      rw [if_neg Bool.false_ne_true, if_neg Bool.false_ne_true, if_neg Bool.false_ne_true, eqd_bl, e1, e2]
      exact q
end
end K37
namespace K37
open PySem PySem.Spec PyProof.Rows L2 Pd
theorem noFs_strs (a : List Str) : noFs (a.map .str) = true := by
  induction a with
  | nil => rfl
  | cons x a ih => rw [List.map_cons, noFs, noF, ih]; rfl
theorem noF_sum (a : List Str) : noF (strsD a) = true := by
  show noF (.tup (a.map .str)) = true
  rw [noF]
  exact noFs_strs a
theorem noF_tl (t : Tl) : noF (tlD t) = true := by
  show (noF (.str t.w) && (noF (strsD t.a) && (noF (strsD t.b) && true))) = true
  rw [noF_sum, noF_sum, noF]
  rfl
theorem noFs_tls (ts : List Tl) : noFs (ts.map tlD) = true := by
  induction ts with
  | nil => rfl
  | cons x a ih => rw [List.map_cons, noFs, noF_tl, ih]; rfl
theorem noL_tls (ts : List Tl) : noL (.tup (ts.map tlD)) = true := by rw [noL]; exact noLs_tls ts
/-- the attributes of a Told -/
def toldF (ts : List Str) (tls : List Tl) : List (Str × Da) := [("_things", strsD ts), ("_tellings", .tup (tls.map tlD))]
def toldD (K : PySem.W.Frag) (C : Addr) (ts : List Str) (tls : List Tl) : Da := insD K C (toldF ts tls)
theorem told_ts (ts : List Str) (tls : List Tl) : (toldF ts tls).lookup ("_things" : Str) = some (strsD ts) := by
  unfold toldF
  rw [List.lookup_cons, show (("_things" : Str) == "_things") = true from by decide +kernel]
theorem told_tls (ts : List Str) (tls : List Tl) : (toldF ts tls).lookup ("_tellings" : Str) = some (.tup (tls.map tlD)) := by
  unfold toldF
  rw [List.lookup_cons, show (("_tellings" : Str) == "_things") = false from by decide +kernel, List.lookup_cons, show (("_tellings" : Str) == "_tellings") = true from by decide +kernel]
theorem told_no {m : Str} (h1 : (m == "_things") = false) (h2 : (m == "_tellings") = false) (ts : List Str) (tls : List Tl) : (toldF ts tls).lookup m = none := by
  unfold toldF
  rw [List.lookup_cons, h1, List.lookup_cons, h2]
  rfl
theorem noLf_told (ts : List Str) (tls : List Tl) : noLf (toldF ts tls) = true := by
  unfold toldF
  rw [noLf, noLf, noLf, noL_sum, noL_tls]
  rfl
section
variable {C : Addr} {P : Program} {wd : World} {K : PySem.W.Frag} {mg : Str → Option Value} {base : Heap}
/-- a Told is made -/
def pInit (ds : List Da) (Q : List (Str × Da) → Prop) : Prop := ∃ (ts : List Str) (tls : List Tl) (x : Da), ds = [strsD ts, x] ∧ (x = .lst (tls.map tlD) ∨ x = .tup (tls.map tlD)) ∧ Good ts ∧ ts.length ≤ 6 ∧ tls.length ≤ 63 ∧ (∀ t ∈ tls, GoodT ts t) ∧ Q (toldF ts tls)
theorem pInit_mo : ∀ ds Q Q', (∀ fs, Q fs → Q' fs) → pInit ds Q → pInit ds Q' := fun _ _ _ q ⟨us, a, ts, e, h, h', h1, h2, h3, z⟩ => ⟨us, a, ts, e, h, h', h1, h2, h3, q _ z⟩
theorem okC_Told (T : Txt K mg C) : CalldI P wd K mg base 8 "Told" C ["self", "things", "tellings"] pInit := by
  obtain ⟨f, fd, F, M, mc, bd⟩ := T.i_told
  refine ⟨⟨f, fd, ?_, M, mc, bd⟩, pInit_mo⟩
  refine defI2 (a := "_things") (b := "_tellings") F sco_init rfl rfl (by decide +kernel) T.cl T.n_things T.n_tellings ?_ pInit_mo ?_
  · rintro ds Q ⟨ts, tls, x, rfl, _⟩
    rfl
  · rintro cdv A outer s0 H E w x ds Q hr hG ⟨ts, tls, d, rfl, hd, g, hl, hl2, hg, q⟩
    refine ⟨_, _, _, _, (psd_if (ptd_not (ptd_val (ped_f ((okp_are_things T).up (by decide)) hr hG (pad_cons (ped_var 1) pad_nil)))) (psd_one psd_raise) psd_nil), (psd_if (ptd_not (ptd_val (ped_f ((okp_are_tellings T).up (by decide)) hr hG (pad_cons (ped_var 1) (pad_cons (ped_var 2) pad_nil))))) (psd_one psd_raise) psd_nil), (ped_var 1), (ped_tupF T.m_tuple (pad_cons (ped_var 2) pad_nil)), .inl rfl, rfl, rfl, ?_⟩
    refine ⟨_, rfl, strsD ts, rfl, okD_things g hl, true, by rw [areThings_ok g hl], ?_⟩
    refine (if_neg Bool.false_ne_true).mpr ?_
    refine ⟨_, rfl, _, rfl, ts, tls, d, rfl, hd, g, hl2, hg, true, rfl, ?_⟩
    refine (if_neg Bool.false_ne_true).mpr ?_
    refine ⟨rfl, ⟨_, rfl⟩, ?_, ?_⟩
    · intro s hs
      have hs' : s ∈ [Sl.dat (.raw (.ref x)), .dat (strsD ts), .dat d] := hs
      have nd : noF d = true := by
        rcases hd with rfl | rfl
        · rw [noF]; exact noFs_tls tls
        · rw [noF]; exact noFs_tls tls
      simp only [List.mem_cons, List.not_mem_nil, or_false] at hs'
      rcases hs' with rfl | rfl | rfl
      · exact rfl
      · exact noF_sum ts
      · exact nd
    · refine ⟨_, rfl, _, rfl, d, rfl, ?_⟩
      have fin : (noL (strsD ts) = true ∧ noF (strsD ts) = true) ∧ (noL (.tup (tls.map tlD)) = true ∧ noF (.tup (tls.map tlD)) = true) ∧ Q [("_things", strsD ts), ("_tellings", .tup (tls.map tlD))] :=
        ⟨⟨noL_sum ts, noF_sum ts⟩, ⟨noL_tls tls, by rw [noF]; exact noFs_tls tls⟩, q⟩
      rcases hd with rfl | rfl
      · exact .inl ⟨_, rfl, fin⟩
      · exact .inr ⟨_, rfl, fin⟩
end
end K37
namespace K37
open PySem PySem.Spec PyProof.Rows L2 Pd
section
variable {C : Addr} {P : Program} {wd : World} {K : PySem.W.Frag} {mg : Str → Option Value} {base : Heap}
/-! ### what a Told answers -/
/-- a promise of a Told alone -/
def pT (K : PySem.W.Frag) (C : Addr) (out : List Str → List Tl → Da) : DSp := fun ds Q => ∃ ts tls, ds = [toldD K C ts tls] ∧ tls.length ≤ 63 ∧ Q (out ts tls)
theorem pT_mo {K : PySem.W.Frag} {C : Addr} {out : List Str → List Tl → Da} : MoP (pT K C out) := fun _ _ _ q ⟨ts, tls, e, h, z⟩ => ⟨ts, tls, e, h, q _ z⟩
theorem okP_things (T : Txt K mg C) : CalldP P wd K mg base 1 C "things" (pT K C fun ts _ => strsD ts) := by
  obtain ⟨a, f, fd, F, pr, bd⟩ := T.p_things
  refine ⟨⟨a, f, fd, defD F sco_things ?_ pT_mo ?_, pr, bd⟩, T.cl, pT_mo⟩
  · rintro ds Q ⟨ts, tls, rfl, _⟩
    rfl
  · rintro cdv A outer s0 H E w ds Q hr hG ⟨ts, tls, rfl, hl, q⟩
    refine ⟨_, (psd_one (psd_ret (ped_fldI (ped_var 0)))), ?_⟩
    exact ⟨_, rfl, C, _, _, rfl, T.cl, T.n_things, told_ts ts tls, noL_sum ts, q⟩
theorem okS_len (T : Txt K mg C) : CalldS P wd K mg base 1 C "__len__" ["self"] (pT K C fun _ tls => .int (tls.length : Nat)) := by
  refine CalldM.toS (defM T.o_len T.cl sco_len ?_ pT_mo ?_)
  · rintro ds Q ⟨ts, tls, rfl, _⟩
    rfl
  · rintro f cdv A outer s0 H E w ds Q hr hG ⟨ts, tls, rfl, hl, q⟩
    refine ⟨_, (psd_one (psd_ret (ped_len T.m_len (pad_cons (ped_fldI (ped_var 0)) pad_nil)))), ?_⟩
    refine ⟨_, rfl, C, _, _, rfl, T.cl, T.n_tellings, told_tls ts tls, noL_tls tls, _, rfl, .inl ⟨_, rfl, ?_⟩⟩
    rw [List.length_map]
    exact q
theorem okI_iter (T : Txt K mg C) : IterAt P wd K mg base 1 C "_tellings" :=
  iterAt_mk T.o_iter T.cl T.n_tellings sco_iter T.m_iter rfl rfl rfl rfl fun _ => rfl
end
end K37
namespace K37
open PySem PySem.Spec PyProof.Rows L2 Pd
/-! ### what worths fit -/
def wOf (f : Str → Int) (a : List Str) : Int := (a.map f).sum
def okT (f : Str → Int) (t : Tl) : Bool := soB t.w (wOf f t.a) (wOf f t.b)
def misI (f : Str → Int) (tls : List Tl) : List Nat := (tls.zipIdx.filter fun p => !okT f p.1).map (·.2)
def numsD (is : List Nat) : Da := .lst (is.map fun i => .int (i : Nat))
def wtD (us : List Str) (f : Str → Int) : Da := .dct (wD us fun t => .int (f t))
theorem misI_nil (f : Str → Int) (tls : List Tl) : (misI f tls).isEmpty = tls.all (okT f) := by
  unfold misI
  have z : ∀ (tls : List Tl) (k : Nat), (((tls.zipIdx k).filter fun p => !okT f p.1).map (·.2)).isEmpty = tls.all (okT f) := by
    intro tls
    induction tls with
    | nil => intro k; rfl
    | cons t tls ih =>
      intro k
      rw [List.zipIdx_cons, List.all_cons]
      cases e : okT f t with
      | true =>
        rw [List.filter_cons_of_neg (by simp [e]), ih]
        rfl
      | false =>
        rw [List.filter_cons_of_pos (by simp [e])]
        rfl
  exact z tls 0
section
variable {C : Addr} {P : Program} {wd : World} {K : PySem.W.Frag} {mg : Str → Option Value} {base : Heap}
/-- a Told and worths of its things -/
def pTW (K : PySem.W.Frag) (C : Addr) (out : List Tl → (Str → Int) → Da) : DSp := fun ds Q => ∃ ts tls us f, ds = [toldD K C ts tls, wtD us f] ∧ us.Perm ts ∧ ts.length ≤ 6 ∧ tls.length ≤ 63 ∧ (∀ t ∈ tls, GoodT ts t) ∧ Q (out tls f)
theorem pTW_mo {K : PySem.W.Frag} {C : Addr} {out : List Tl → (Str → Int) → Da} : MoP (pTW K C out) := fun _ _ _ q ⟨ts, tls, us, f, e, a, b, c, d, z⟩ => ⟨ts, tls, us, f, e, a, b, c, d, q _ z⟩
theorem sum_in {ts us a : List Str} (p : us.Perm ts) (s : SumOf ts a) : ∀ t ∈ a, t ∈ us := fun t ht => p.mem_iff.mpr (s.mem t ht)
theorem okp_misfits (T : Txt K mg C) : Calld P wd K mg base 4 "misfits" ["told", "worths"] (pTW K C fun tls f => numsD (misI f tls)) := by
  refine defC T.dp_misfits scp_misfits ?_ pTW_mo ?_
  · rintro ds Q ⟨ts, tls, us, f, rfl, _⟩
    rfl
  · rintro f0 cdv A outer s0 H E w ds Q hr hG ⟨ts, tls, us, f, rfl, pm, hl6, hl, hg, q⟩
    refine ⟨_, (psd_one (psd_ret (ped_lc (own := [("index", 2), ("word", 3), ("one", 4), ("other", 5)]) scp_misfits.nd (pid_ownE ((okI_iter T).up (by decide)) hr hG T.m_enumerate (ped_var 0)) (blkOk_by (own := [("index", 2), ("word", 3), ("one", 4), ("other", 5)]) (N := Np_misfits) (sc := defScope sp_misfits) (by decide +kernel)) (gd_tup13 2 3 4 5) (gTup_mo (gCons_mo (gName_mo 2) (gCons_mo (gTup_mo (gCons_mo (gName_mo 3) (gCons_mo (gName_mo 4) (gCons_mo (gName_mo 5) gNil_mo)))) gNil_mo))) (by decide) (fun _ _ _ _ _ => (pg_tup rfl (pgs_cons (pg_name (i := 2) scp_misfits.nd rfl (Or.inl rfl)) (pgs_cons (pg_tup rfl (pgs_cons (pg_name (i := 3) scp_misfits.nd rfl (Or.inl rfl)) (pgs_cons (pg_name (i := 4) scp_misfits.nd rfl (Or.inl rfl)) (pgs_cons (pg_name (i := 5) scp_misfits.nd rfl (Or.inl rfl)) pgs_nil)))) pgs_nil)))) (fun _ _ _ _ _ => (ptsd_one (ptd_not (ptd_val (ped_f ((okp_is_so T).up (by decide)) hr hG (pad_cons (ped_var 3) (pad_cons (ped_f ((okp_worth T).up (by decide)) hr hG (pad_cons (ped_var 1) (pad_cons (ped_var 4) pad_nil))) (pad_cons (ped_f ((okp_worth T).up (by decide)) hr hG (pad_cons (ped_var 1) (pad_cons (ped_var 5) pad_nil))) pad_nil)))))))) (fun _ _ _ _ _ => (ped_var 2)) s0))), ?_⟩
    refine ⟨_, rfl, _, _, rfl, told_tls ts tls, noL_tls tls, ?_⟩
    rw [enumD_map]
    refine lcD_selM (fun p : Tl × Nat => Da.tpw [.int (p.2 : Nat), tlD p.1]) (fun p => !okT f p.1) (fun p => Da.int (p.2 : Nat)) tls.zipIdx (by rw [List.length_zipIdx]; omega) (fun p hp P1 hy hn => ?_) ?_
    · have ht : p.1 ∈ tls := (List.mem_zipIdx hp).2.2 ▸ List.getElem_mem _
      have gt := hg _ ht
      refine ⟨_, _, _, _, _, rfl, rfl, ?_⟩
      refine ⟨_, rfl, _, rfl, _, rfl, us, f, p.1.a, rfl, sum_in pm gt.a, Nat.le_trans gt.a.len (by decide), _, rfl, _, rfl, us, f, p.1.b, rfl, sum_in pm gt.b, Nat.le_trans gt.b.len (by decide), ?_⟩
      refine ⟨_, _, _, rfl, gt.w, _, rfl, ?_⟩
      cases e : okT f p.1 with
      | true =>
        have e' : soB p.1.w ((p.1.a.map f).sum) ((p.1.b.map f).sum) = true := e
        rw [e']
        exact (if_neg Bool.false_ne_true).mpr (hn (by rw [e]; rfl))
      | false =>
        have e' : soB p.1.w ((p.1.a.map f).sum) ((p.1.b.map f).sum) = false := e
        rw [e']
        exact (if_pos rfl).mpr ⟨_, rfl, hy (by rw [e]; rfl)⟩
    · have e : (tls.zipIdx.filter fun p => !okT f p.1).map (fun p => Da.int (p.2 : Nat)) = (misI f tls).map fun i => Da.int (i : Nat) := by
        unfold misI
        rw [List.map_map]
        rfl
      rw [e]
      exact q
theorem okp_fits (T : Txt K mg C) : Calld P wd K mg base 5 "fits" ["told", "thing"] (pTW K C fun tls f => .bl (tls.all (okT f))) := by
  refine defC T.dp_fits scp_fits ?_ pTW_mo ?_
  · rintro ds Q ⟨ts, tls, us, f, rfl, _⟩
    rfl
  · rintro f0 cdv A outer s0 H E w ds Q hr hG ⟨ts, tls, us, f, rfl, pm, hl6, hl, hg, q⟩
    refine ⟨_, (psd_one (psd_ret (ped_and (ped_f ((okp_are_worths T).up (by decide)) hr hG (pad_cons (ped_propI ((okP_things T).up (by decide)) hr hG (ped_var 0)) (pad_cons (ped_var 1) pad_nil))) (ped_one (ped_eqNil hr (ped_f ((okp_misfits T).up (by decide)) hr hG (pad_cons (ped_var 0) (pad_cons (ped_var 1) pad_nil))) (ped_lst pad_nil)))))), ?_⟩
    refine ⟨_, rfl, ⟨_, rfl⟩, ts, tls, rfl, hl, _, rfl, ts, us, f, rfl, pm, by omega, _, rfl, (if_pos rfl).mpr ?_⟩
    refine ⟨_, rfl, _, rfl, ts, tls, us, f, rfl, pm, hl6, hl, hg, by decide, _, rfl, rfl, ?_⟩
    have e : ((misI f tls).map fun i => Da.int (i : Nat)).isEmpty = tls.all (okT f) := by
      rw [← misI_nil, List.isEmpty_map]
    rw [if_neg Bool.false_ne_true, e]
    exact q
end
end K37
namespace K37
open PySem PySem.Spec PyProof.Rows L2 Pd
theorem eqd_word {x y : Str} : eqd (.str x) (.str y) = decide (x = y) := by
  rw [eqd_str, Bool.eq_iff_iff, beq_iff_eq, decide_eq_true_eq]
/-! ### rows -/
def eqTl (a b : List Tl) : Bool := PyData.eqvAll (toPs (a.map tlD)) (toPs (b.map tlD))
theorem eqd_tlsT (a b : List Tl) : eqd (.tup (a.map tlD)) (.tup (b.map tlD)) = eqTl a b := by
  unfold eqd
  rw [toP, toP, PyData.eqv]
  rfl
theorem eqd_tlsL (a b : List Tl) : eqd (.lst (a.map tlD)) (.lst (b.map tlD)) = eqTl a b := by
  unfold eqd
  rw [toP, toP, PyData.eqv]
  rfl
theorem eqd_sum (a b : List Str) : eqd (strsD a) (strsD b) = decide (a = b) := by
  show PyData.eqv (toP (.tup (a.map .str))) (toP (.tup (b.map .str))) = _
  rw [toP, toP, PyData.eqv]
  exact eqv_strs a b
theorem sz_sum {ts a : List Str} (g : Good ts) (h : SumOf ts a) : Sz (strsD a) 1 400 := by
  have z := sz_tup (ds := a.map Da.str) (n := 0) (c := 82) fun d hd => by
    obtain ⟨x, hx, rfl⟩ := List.mem_map.mp hd
    have n := g.nm x (h.mem x hx)
    exact (sz_str (name_asc n)).up (Nat.le_refl _) (by have := name_len n; omega)
  rw [List.length_map] at z
  exact z.up (Nat.le_refl _) (by have := h.len; omega)
theorem words_len : ∀ w ∈ words, w.length ≤ 10 := by decide +kernel
theorem sz_tl {ts : List Str} {t : Tl} (g : Good ts) (h : GoodT ts t) : Sz (tlD t) 2 1300 := by
  have z := sz_tup (ds := [.str t.w, strsD t.a, strsD t.b]) (n := 1) (c := 400) fun d hd => by
    rcases List.mem_cons.mp hd with rfl | hd
    · exact (sz_str (word_asc _ h.w)).up (by decide) (by have := words_len _ h.w; omega)
    · rcases List.mem_cons.mp hd with rfl | hd
      · exact sz_sum g h.a
      · rw [List.mem_singleton.mp hd]
        exact sz_sum g h.b
  exact z.up (Nat.le_refl _) (by show 3 * (400 + 2) + 3 ≤ 1300; decide)
theorem sz_tls {ts : List Str} {tls : List Tl} (g : Good ts) (h : ∀ t ∈ tls, GoodT ts t) : Sz (.lst (tls.map tlD)) 3 (tls.length * 1302 + 3) := by
  have z := sz_lst (ds := tls.map tlD) (n := 2) (c := 1300) fun d hd => by
    obtain ⟨t, ht, rfl⟩ := List.mem_map.mp hd
    exact sz_tl g (h t ht)
  rw [List.length_map] at z
  exact z
theorem shp_tls {ts : List Str} {tls : List Tl} (g : Good ts) (h : ∀ t ∈ tls, GoodT ts t) : shp (.lst (tls.map tlD)) = true := (sz_tls g h).shp (by decide)
theorem shp_tlsT {ts : List Str} {tls : List Tl} (g : Good ts) (h : ∀ t ∈ tls, GoodT ts t) : shp (.tup (tls.map tlD)) = true := by
  refine (sz_tup (ds := tls.map tlD) (n := 2) (c := 1300) fun d hd => ?_).shp (by decide)
  obtain ⟨t, ht, rfl⟩ := List.mem_map.mp hd
  exact sz_tl g (h t ht)
theorem eqTl_refl {ts : List Str} {tls : List Tl} (g : Good ts) (h : ∀ t ∈ tls, GoodT ts t) : eqTl tls tls = true := by
  rw [← eqd_tlsL]
  exact eqd_refl (sz_tls g h)
section
variable {C : Addr} {P : Program} {wd : World} {K : PySem.W.Frag} {mg : Str → Option Value} {base : Heap}
/-! ### Told's == -/
def pEq (K : PySem.W.Frag) (C : Addr) : DSp := fun ds Q => ∃ ts tls y, ds = [toldD K C ts tls, y] ∧ Good ts ∧ (∀ t ∈ tls, GoodT ts t) ∧ ((∃ us tls', y = toldD K C us tls' ∧ Good us ∧ (∀ t ∈ tls', GoodT us t) ∧ Q (.bl (decide (ts = us) && eqTl tls tls'))) ∨ ((∃ n, tyD y = some n) ∧ Q (.bl false)))
theorem pEq_mo : MoP (pEq K C) := fun _ _ _ q ⟨ts, tls, y, e, h, h1, z⟩ => ⟨ts, tls, y, e, h, h1, z.elim (fun ⟨us, b, c, d, f, z⟩ => .inl ⟨us, b, c, d, f, q _ z⟩) fun z => .inr ⟨z.1, q _ z.2⟩⟩
theorem okS_eq (T : Txt K mg C) : CalldS P wd K mg base 1 C "__eq__" ["self", "other"] (pEq K C) := by
  refine CalldM.toS (defM T.o_eq T.cl sco_eq ?_ pEq_mo ?_)
  · rintro ds Q ⟨ts, tls, y, rfl, _⟩
    rfl
  · rintro f cdv A outer s0 H E w ds Q hr hG ⟨ts, tls, y, rfl, g, hg, z⟩
    refine ⟨_, (psd_one (psd_ret (ped_and (ped_isO K T.cl T.eqf T.m_isinstance (ped_var 1) T.g_Told) (ped_and (ped_eq hr (ped_fldI (ped_var 0)) (ped_fldI (ped_var 1))) (ped_one (ped_eq hr (ped_fldI (ped_var 0)) (ped_fldI (ped_var 1)))))))), ?_⟩
    refine ⟨y, rfl, ?_⟩
    rcases z with ⟨us, tls', rfl, gu, hg', q⟩ | ⟨hy, q⟩
    · refine .inl ⟨⟨_, rfl⟩, _, rfl, (if_pos rfl).mpr ?_⟩
      refine ⟨_, rfl, C, _, _, rfl, T.cl, T.n_things, told_ts ts tls, noL_sum ts, _, rfl, C, _, _, rfl, T.cl, T.n_things, told_ts us tls', noL_sum us, ?_⟩
      refine ⟨g.asc.shp, gu.asc.shp, _, rfl, ?_⟩
      rw [if_neg Bool.false_ne_true, eqd_sum]
      cases e : decide (ts = us) with
      | false =>
        rw [e] at q
        exact (if_neg Bool.false_ne_true).mpr q
      | true =>
        rw [e] at q
        refine (if_pos rfl).mpr ⟨_, rfl, C, _, _, rfl, T.cl, T.n_tellings, told_tls ts tls, noL_tls tls, _, rfl, C, _, _, rfl, T.cl, T.n_tellings, told_tls us tls', noL_tls tls', ?_⟩
        refine ⟨shp_tlsT g hg, shp_tlsT gu hg', ?_⟩
        rw [if_neg Bool.false_ne_true, eqd_tlsT]
        exact q
    · exact .inr ⟨hy, _, rfl, (if_neg Bool.false_ne_true).mpr q⟩
/-! ### told[i] -/
end
end K37
namespace K37
open PySem PySem.Spec PyProof.Rows L2 Pd
section
variable {C : Addr} {P : Program} {wd : World} {K : PySem.W.Frag} {mg : Str → Option Value} {base : Heap}
/-! ### in any order -/
def pMixed : DSpF := fun ds Q => ∃ xs : List Da, ds = [.bag, .lst xs] ∧ noLs xs = true ∧ xs.length ≤ 400 ∧ ∀ ys : List Da, ys.Perm xs → Q ys
theorem pMixed_mo : MoPF pMixed := fun _ _ _ q ⟨xs, e, n, h, z⟩ => ⟨xs, e, n, h, fun ys p => q _ (z ys p)⟩
theorem perm_ins (ys : List Da) (n : Nat) (d : Da) : (ys.take n ++ [d] ++ ys.drop n).Perm (ys ++ [d]) := by
  have h : (ys.take n ++ ([d] ++ ys.drop n)).Perm (ys.take n ++ (ys.drop n ++ [d])) := List.Perm.append_left _ List.perm_append_comm
  rw [← List.append_assoc, ← List.append_assoc, List.take_append_drop] at h
  exact h
theorem ok_mixedF (T : Txt K mg C) : CalldF P wd K mg base 2 "_law_mixed" ["_law_bag_here", "_law_things_here"] pMixed := by
  refine defF T.d_mixed sc_mixed ?_ pMixed_mo ?_
  · rintro ds Q ⟨xs, rfl, _⟩
    rfl
  · rintro f cdv A outer s0 H E w ds Q hr hG hw ⟨xs, rfl, hn, hl, q⟩
    refine ⟨_, (psf_cons (psd_setF (i := 2) (pfd_lst pad_nil) sc_mixed.nd)
    (psf_cons (psd_for (pid_list (ped_var 1)) (pg_name (i := 3) sc_mixed.nd rfl (Or.inl rfl)) (gd_name 3) (gName_mo 3)
    (psd_one (psd_ins (i := 2) (ped_open fun _ => (ped_f ((ok_take T).up (by decide)) hr hG (pad_cons (ped_var 0) (pad_cons (ped_add (ped_len T.m_len (pad_cons (ped_var 2) pad_nil)) ped_int) pad_nil)))) (ped_var 3))))
    (psf_retOwn 2 hw))), ?_⟩
    refine ⟨by decide, ?_⟩
    refine ⟨_, rfl, _, rfl, ?_⟩
    refine forD_run (fun i r => ∃ ys s3, r = [.dat .bag, .dat (.lst xs), .own ys, s3] ∧ ys.Perm (xs.take i)) ⟨[], _, rfl, by rw [List.take_zero]⟩ ?_ ?_
    · rintro r ⟨ys, s3, rfl, h⟩
      rw [List.take_length] at h
      exact ⟨ys, rfl, q ys h⟩
    · rintro i d r nx hd ⟨ys, s3, rfl, h⟩ k
      have hi := (List.getElem?_eq_some_iff.mp hd).1
      have ly : ys.length = i := by rw [h.length_eq, List.length_take]; omega
      refine ⟨ys, rfl, _, rfl, _, rfl, _, rfl, .inl ⟨ys, rfl, _, rfl, by omega, log_small (by omega) (by omega), fun n n0 n1 => ⟨by rw [noL], _, rfl, ?_⟩⟩⟩
      obtain ⟨m, rfl⟩ := Int.eq_ofNat_of_zero_le n0
      refine ⟨m, rfl, by omega, by rw [sizeLine_eq]; omega, k _ ⟨_, _, rfl, ?_⟩⟩
      refine (perm_ins ys m d).trans ?_
      have e : xs.take (i + 1) = xs.take i ++ [d] := by rw [List.take_add_one, hd]; rfl
      rw [e]
      exact h.append_right _
theorem ok_mixed (T : Txt K mg C) : Calld P wd K mg base 2 "_law_mixed" ["_law_bag_here", "_law_things_here"] (fun ds Q => pMixed ds fun xs => Q (.lst xs)) := (ok_mixedF T).dat
end
end K37
namespace K37
open PySem PySem.Spec PyProof.Rows L2 Pd
/-! ### all sums -/
def okN (one : List Str) (x : Str) : Bool := match one.getLast? with | some l => !ltS x l | none => true
def nextS (ts : List Str) (one : List Str) : List (List Str) := (ts.filter (okN one)).map fun x => one ++ [x]
def sumsF (ts : List Str) : Nat → List (List Str)
  | 0 => [[]]
  | n + 1 => (sumsF ts n).flatMap (nextS ts)
def strOf : Da → Str
  | .str x => x
  | _ => ""
theorem strOf_map (a : List Str) : (a.map Da.str).map strOf = a := by
  rw [List.map_map]
  exact (List.map_congr_left fun x _ => rfl).trans (List.map_id a)
def oneOf : Da → List Str
  | .tup xs => xs.map strOf
  | _ => []
theorem oneOf_strs (a : List Str) : oneOf (strsD a) = a := strOf_map a
theorem sumsF_mem {ts : List Str} : ∀ {n : Nat} {one : List Str}, one ∈ sumsF ts n → one.length = n ∧ ∀ x ∈ one, x ∈ ts
  | 0, one, h => by
    have e : one = [] := by simpa [sumsF] using h
    subst e
    exact ⟨rfl, fun x h => by cases h⟩
  | n + 1, one, h => by
    obtain ⟨p, hp, hq⟩ := List.mem_flatMap.mp h
    obtain ⟨l, m⟩ := sumsF_mem hp
    unfold nextS at hq
    obtain ⟨x, hx, rfl⟩ := List.mem_map.mp hq
    refine ⟨by rw [List.length_append, l]; rfl, fun y hy => ?_⟩
    rcases List.mem_append.mp hy with z | z
    · exact m y z
    · rw [List.mem_singleton.mp z]
      exact (List.mem_filter.mp hx).1
theorem sumsF_len (ts : List Str) : ∀ n, (sumsF ts n).length ≤ ts.length ^ n
  | 0 => Nat.le_refl _
  | n + 1 => by
    have ih := sumsF_len ts n
    have z : ∀ ones : List (List Str), (ones.flatMap (nextS ts)).length ≤ ones.length * ts.length := by
      intro ones
      induction ones with
      | nil => simp
      | cons o ones ih =>
        rw [List.flatMap_cons, List.length_append, List.length_cons, Nat.add_mul, Nat.one_mul]
        have : (nextS ts o).length ≤ ts.length := by
          unfold nextS
          rw [List.length_map]
          exact List.length_filter_le _ _
        omega
    refine Nat.le_trans (z _) ?_
    rw [Nat.pow_succ]
    exact Nat.mul_le_mul_right _ ih
theorem pow_room {n m : Nat} (h : n ≤ 7) (hm : m ≤ 3) : n ^ m ≤ 343 := Nat.le_trans (Nat.pow_le_pow_left h m) (Nat.le_trans (Nat.pow_le_pow_right (by decide) hm) (by decide))
def fN (one : List Str) : Da → Option Da
  | .str x => if okN one x = true then some (strsD (one ++ [x])) else none
  | _ => none
theorem fN_map (ts one : List Str) : (ts.map Da.str).filterMap (fN one) = (nextS ts one).map strsD := by
  unfold nextS
  induction ts with
  | nil => rfl
  | cons t ts ih =>
    rw [List.map_cons]
    by_cases h : okN one t = true
    · rw [List.filter_cons_of_pos h, List.map_cons, List.map_cons, ← ih]
      exact List.filterMap_cons_some (if_pos h)
    · rw [List.filter_cons_of_neg h, ← ih]
      exact List.filterMap_cons_none (if_neg h)
theorem flat_strs (ts : List Str) (ones : List (List Str)) : (ones.map strsD).flatMap (fun d => (nextS ts (oneOf d)).map strsD) = (ones.flatMap (nextS ts)).map strsD := by
  rw [List.map_flatMap, List.flatMap_map]
  have e : (fun a => List.map strsD (nextS ts (oneOf (strsD a)))) = fun a => List.map strsD (nextS ts a) := by
    funext a
    rw [oneOf_strs]
  rw [e]
theorem lastAt {one : List Str} {l : Str} (h : one.getLast? = some l) : L2.atI (one.map Da.str) (-1) = some (.str l) := by
  obtain ⟨ys, rfl⟩ : ∃ ys, one = ys ++ [l] := List.getLast?_eq_some_iff.mp h
  rw [List.map_append]
  exact L2.atI_last _ _
section
variable {C : Addr} {P : Program} {wd : World} {K : PySem.W.Frag} {mg : Str → Option Value} {base : Heap}
def pSumsP : DSp := fun ds Q => ∃ (ts : List Str) (m : Nat) (x : Da), ds = [x, .int (m : Nat)] ∧ (x = .lst (ts.map .str) ∨ x = strsD ts) ∧ Asc ts ∧ ts.length ≤ 7 ∧ m ≤ 3 ∧ Q (.lst ((sumsF ts m).map strsD))
theorem pSumsP_mo : MoP pSumsP := fun _ _ _ q ⟨ts, m, x, e, hx, a, b, c, z⟩ => ⟨ts, m, x, e, hx, a, b, c, q _ z⟩
theorem yes {A B : Prop} (h : A) : if true = true then A else B := (if_pos rfl).mpr h
theorem nope {A B : Prop} (h : B) : if false = true then A else B := (if_neg Bool.false_ne_true).mpr h
theorem asc_sub {ts one : List Str} (h : Asc ts) (m : ∀ x ∈ one, x ∈ ts) : Asc one := fun x hx => h x (m x hx)
theorem okp_sums (T : Txt K mg C) : Calld P wd K mg base 1 "sums" ["things", "many"] pSumsP := by
  refine defC T.dp_sums scp_sums ?_ pSumsP_mo ?_
  · rintro ds Q ⟨ts, m, x, rfl, _⟩
    rfl
  · rintro f cdv A outer s0 H E w ds Q hr hG ⟨ts, m, x0, rfl, hx0, asc, hl, hm, q⟩
    refine ⟨_, (psd_cons (psd_set (i := 2) (ped_lst (pad_cons (ped_tup pad_nil) pad_nil)) scp_sums.nd)
    (psd_cons (psd_for (pid_range T.m_range (ped_var 1)) (pg_name (i := 3) scp_sums.nd rfl (Or.inl rfl)) (gd_name 3) (gName_mo 3)
    (psd_one (psd_setLc2 (i := 2) (own := [("one", 4), ("name", 5)]) (vs1 := [5]) scp_sums.nd (pid_list (ped_var 2)) (blkOk_by (own := [("one", 4), ("name", 5)]) (N := Np_sums) (sc := defScope sp_sums) (by decide +kernel)) (by decide) (gds_name 4) (gName_mo 4) (by decide) (gds_name 5) (gName_mo 5) (by decide) (fun _ _ _ _ _ => (pg_name (i := 4) scp_sums.nd rfl (Or.inl rfl))) (fun _ _ _ _ _ => ptsd_nil) (fun _ _ _ _ _ => (pid_seq (ped_var 0))) (fun _ _ _ _ _ => (pg_name (i := 5) scp_sums.nd rfl (Or.inl rfl))) (fun _ _ _ _ _ => (ptsd_one (PWd.pt (pwd_or (ptd_eq hr (ped_var 4) (ped_tup pad_nil)) (pwd_or1 (ptd_le (ped_at (fun _ _ => rfl) (ped_var 4) (ped_neg ped_int)) (ped_var 5))))))) (fun _ _ _ _ _ => (ped_add (ped_var 4) (ped_tup (pad_cons (ped_var 5) pad_nil)))) s0 (sw_true rfl rfl rfl (by decide +kernel)))))
    (psd_one (psd_ret (ped_var 2))))), ?_⟩
    refine ⟨show 0 ≤ sizeLine by decide, show 1 ≤ sizeLine by decide, _, rfl, _, rfl, by omega, by omega, ?_⟩
    rw [Int.toNat_natCast]
    refine forD_run (fun i r => ∃ s3 s4 s5, r = [.dat x0, .dat (.int (m : Nat)), .dat (.lst ((sumsF ts i).map strsD)), s3, s4, s5]) ⟨_, _, _, rfl⟩ ?_ ?_
    · rintro r ⟨s3, s4, s5, rfl⟩
      rw [rngD_len] at *
      exact ⟨_, rfl, q⟩
    · rintro i d r nx hd ⟨s3, s4, s5, rfl⟩ k
      have hi : i < m := by
        have := (List.getElem?_eq_some_iff.mp hd).1
        rwa [rngD_len] at this
      have room : (sumsF ts (i + 1)).length ≤ 343 := Nat.le_trans (sumsF_len ts (i + 1)) (pow_room hl (by omega))
      refine ⟨_, rfl, _, rfl, ?_⟩
      refine lcN_run (fun d => (nextS ts (oneOf d)).map strsD) 343 _ [] (by rw [flat_strs, List.length_map, List.length_nil]; show 0 + (sumsF ts (i + 1)).length ≤ _; omega) (fun e he acc k' hl2 hk => ?_) ?_
      · obtain ⟨one, ho, rfl⟩ := List.mem_map.mp he
        rw [oneOf_strs] at hl2 hk
        obtain ⟨lo, mo⟩ := sumsF_mem ho
        show dItLT (dVar 0) _ _
        refine ⟨_, rfl, ts.map Da.str, hx0.imp id (fun e => by rw [e]; rfl), ?_⟩
        rw [← fN_map] at hk
        refine lcK_run (fN one) _ acc (by rw [List.length_map, sizeLine_eq]; omega) (fun d hd Y Z hY hZ => ?_) hk
        obtain ⟨x, hx, rfl⟩ := List.mem_map.mp hd
        have a1 : shp (strsD one) = true := (asc_sub asc mo).shp
        have fin : okN one x = true → one.length + 1 ≤ sizeLine ∧ Y (strsD (one ++ [x])) := fun h => ⟨by rw [sizeLine_eq]; omega, hY _ (if_pos h)⟩
        refine ⟨_, rfl, by decide, a1, shp_unit, _, rfl, ?_⟩
        rw [eqd_tupNil]
        cases e : one.getLast? with
        | none =>
          have eo : one = [] := List.getLast?_eq_none_iff.mp e
          subst eo
          have ok : okN [] x = true := rfl
          exact ⟨_, rfl, _, rfl, (show 1 ≤ sizeLine by decide), (fin ok)⟩
        | some l =>
          have hz : one.isEmpty = false := by
            cases one with
            | nil => cases e
            | cons _ _ => rfl
          have eq : okN one x = !ltS x l := by unfold okN; rw [e]
          have he : (one.map Da.str).isEmpty = false := by
            cases one with
            | nil => cases e
            | cons _ _ => rfl
          refine ite2 (fun h => absurd h (by rw [if_neg Bool.false_ne_true, he]; exact Bool.false_ne_true)) (fun _ => ?_)
          refine ⟨_, rfl, _, lastAt e, _, rfl, _, rfl, ?_⟩
          have ap : (one.length + 1 ≤ sizeLine ∧ Y (strsD (one ++ [x]))) → addD (strsD one) (.tup [.str x]) Y := fun h => by
            have e2 : strsD (one ++ [x]) = .tup (one.map Da.str ++ [Da.str x]) := by
              show Da.tup ((one ++ [x]).map Da.str) = _
              rw [List.map_append]
              rfl
            rw [e2] at h
            exact ⟨by rw [List.length_map]; exact h.1, h.2⟩
          show (if (!ltS x l) = true then _ else _)
          rw [← eq]
          cases h : okN one x with
          | true => exact (if_pos rfl).mpr ⟨_, rfl, _, rfl, (show 1 ≤ sizeLine by decide), ap (fin h)⟩
          | false => exact (if_neg Bool.false_ne_true).mpr (hZ (if_neg (by rw [h]; exact Bool.false_ne_true)))
      · rw [List.nil_append, flat_strs]
        exact k _ ⟨_, _, _, rfl⟩
end
end K37
namespace K37
open PySem PySem.Spec PyProof.Rows L2 Pd
def namD (us : List Str) (g : Str → Str) : Da := .dct (wD us fun t => .str (g t))
theorem grd_str (us : List Str) (g : Str → Str) : Grd (wD us fun t => .str (g t)) := fun kv h => by
  unfold wD at h
  obtain ⟨t, _, rfl⟩ := List.mem_map.mp h
  exact True.intro
theorem grd_int (us : List Str) (g : Str → Int) : Grd (wD us fun t => .int (g t)) := fun kv h => by
  unfold wD at h
  obtain ⟨t, _, rfl⟩ := List.mem_map.mp h
  exact True.intro
section
variable {C : Addr} {P : Program} {wd : World} {K : PySem.W.Frag} {mg : Str → Option Value} {base : Heap}
/-! ### names exchanged -/
def pSumO : DSp := fun ds Q => ∃ b : List Str, ds = [.lst (b.map .str)] ∧ b.length ≤ 63 ∧ ∀ c : List Str, c.Perm b → sortedS c = true → Q (strsD c)
theorem pSumO_mo : MoP pSumO := fun _ _ _ q ⟨b, e, h, z⟩ => ⟨b, e, h, fun c h1 h2 => q _ (z c h1 h2)⟩
theorem okp_sum_of (T : Txt K mg C) : Calld P wd K mg base 1 "sum_of" ["names"] pSumO := by
  refine defC T.dp_sum_of scp_sum_of ?_ pSumO_mo ?_
  · rintro ds Q ⟨b, rfl, _⟩
    rfl
  · rintro f cdv A outer s0 H E w ds Q hr hG ⟨b, rfl, hl, q⟩
    refine ⟨_, (psd_one (psd_ret (ped_tupF T.m_tuple (pad_cons (ped_sorted hr T.m_sorted (pad_cons (ped_var 0) pad_nil)) pad_nil)))), ?_⟩
    obtain ⟨c, e, p, so⟩ := srt_strsS (a := b)
    refine ⟨_, rfl, _, _, rfl, rfl, srtOk_strs (by omega), _, rfl, .inl ⟨_, rfl, ?_⟩⟩
    rw [e]
    exact q c p so
def pInN : DSp := fun ds Q => ∃ (us a : List Str) (g : Str → Str), ds = [strsD a, namD us g] ∧ (∀ t ∈ a, t ∈ us) ∧ a.length ≤ 63 ∧ ∀ c : List Str, c.Perm (a.map g) → sortedS c = true → Q (strsD c)
theorem pInN_mo : MoP pInN := fun _ _ _ q ⟨us, a, g, e, h, h', z⟩ => ⟨us, a, g, e, h, h', fun c h1 h2 => q _ (z c h1 h2)⟩
theorem okp_in_names (T : Txt K mg C) : Calld P wd K mg base 2 "_in_names" ["some", "names"] pInN := by
  refine defC T.dp_in_names scp_in_names ?_ pInN_mo ?_
  · rintro ds Q ⟨us, a, g, rfl, _⟩
    rfl
  · rintro f cdv A outer s0 H E w ds Q hr hG ⟨us, a, g, rfl, h, hl, q⟩
    refine ⟨_, (psd_one (psd_ret (ped_f ((okp_sum_of T).up (by decide)) hr hG (pad_cons (ped_lc (own := [("name", 2)]) scp_in_names.nd (pid_tup (ped_var 0)) (blkOk_by (own := [("name", 2)]) (N := Np_in_names) (sc := defScope sp_in_names) (by decide +kernel)) (gd_name 2) (gName_mo 2) (by decide) (fun _ _ _ _ _ => (pg_name (i := 2) scp_in_names.nd rfl (Or.inl rfl))) (fun _ _ _ _ _ => ptsd_nil) (fun _ _ _ _ _ => (ped_dget hr (ped_var 1) (ped_var 2))) s0) pad_nil)))), ?_⟩
    refine ⟨_, rfl, _, rfl, ?_⟩
    refine lcD_mapM Da.str (fun t => Da.str (g t)) a (by omega) (fun t ht R hR => ?_) ?_
    · exact ⟨_, rfl, _, rfl, _, .inr t, _, rfl, rfl, valD_w (h t ht), hR⟩
    · refine ⟨a.map g, by rw [List.map_map]; rfl, by rw [List.length_map]; exact hl, q⟩
def pTrue : DSp := fun ds Q => ∃ (us : List Str) (w : Str → Int) (a b : List Str), ds = [.dct (wD us fun t => .int (w t)), .tup [strsD a, strsD b]] ∧ (∀ t ∈ a, t ∈ us) ∧ (∀ t ∈ b, t ∈ us) ∧ a.length ≤ 63 ∧ b.length ≤ 63 ∧
  (wordOf (wOf w a - wOf w b) = "lighter" → Q (tlD ⟨"heavier", b, a⟩)) ∧ (wordOf (wOf w a - wOf w b) ≠ "lighter" → Q (tlD ⟨wordOf (wOf w a - wOf w b), a, b⟩))
theorem pTrue_mo : MoP pTrue := fun _ _ _ q ⟨us, w, a, b, e, h, h', h1, h2, z, z'⟩ => ⟨us, w, a, b, e, h, h', h1, h2, fun y => q _ (z y), fun y => q _ (z' y)⟩
theorem word_shp (i : Int) : shp (.str (wordOf i)) = true := by
  unfold wordOf
  split
  · decide +kernel
  · split <;> decide +kernel
theorem eqd_str {x y : Str} : eqd (.str x) (.str y) = decide (x = y) := eqd_word
theorem ok_true_telling (T : Txt K mg C) : Calld P wd K mg base 3 "_law_true_telling" ["_law_worths_here", "_law_pair_here"] pTrue := by
  refine defC T.d_true_telling sc_true_telling ?_ pTrue_mo ?_
  · rintro ds Q ⟨us, w, a, b, rfl, _⟩
    rfl
  · rintro f cdv A outer s0 H E w ds Q hr hG ⟨us, wf, a, b, rfl, ha, hb, la, lb, q1, q2⟩
    refine ⟨_, (psd_cons (psd_set (i := 2) (ped_f ((okp_word_in T).up (by decide)) hr hG (pad_cons (ped_var 0) (pad_cons (ped_var 1) pad_nil))) sc_true_telling.nd)
    (psd_one (psd_ret (ped_ifExp (ptd_eq hr (ped_var 2) ped_str) (ped_tup (pad_cons ped_str (pad_cons (ped_at (fun _ _ => rfl) (ped_var 1) ped_int) (pad_cons (ped_at (fun _ _ => rfl) (ped_var 1) ped_int) pad_nil)))) (ped_tup (pad_cons (ped_var 2) (pad_cons (ped_at (fun _ _ => rfl) (ped_var 1) ped_int) (pad_cons (ped_at (fun _ _ => rfl) (ped_var 1) ped_int) pad_nil)))))))), ?_⟩
    refine ⟨_, rfl, _, rfl, us, wf, a, b, rfl, ha, hb, la, lb, ?_⟩
    refine ⟨_, rfl, word_shp _, by decide +kernel, _, rfl, ite2 (fun h => ?_) (fun h => ?_)⟩
    · rw [if_neg Bool.false_ne_true, eqd_str] at h
      exact ⟨_, rfl, _, rfl, _, rfl, _, rfl, (show 3 ≤ sizeLine by decide), q1 (of_decide_eq_true h)⟩
    · rw [if_neg Bool.false_ne_true, eqd_str] at h
      exact ⟨_, rfl, _, rfl, _, rfl, _, rfl, _, rfl, (show 3 ≤ sizeLine by decide), q2 (fun z => h (decide_eq_true z))⟩
def pLed : DSp := fun ds Q => ∃ (us us2 : List Str) (w : Str → Int) (g : Str → Str), ds = [.dct (wD us fun t => .int (w t)), namD us2 g] ∧ (∀ t ∈ us, t ∈ us2) ∧ us.length ≤ 63 ∧ Q (.dct (mergeD [] (us.map fun t => (.inr (g t), .int (w t)))))
theorem pLed_mo : MoP pLed := fun _ _ _ q ⟨us, us2, w, g, e, h, h', z⟩ => ⟨us, us2, w, g, e, h, h', q _ z⟩
theorem ok_led (T : Txt K mg C) : Calld P wd K mg base 1 "_law_led" ["_law_worths_here", "_law_names"] pLed := by
  refine defC T.d_led sc_led ?_ pLed_mo ?_
  · rintro ds Q ⟨us, us2, w, g, rfl, _⟩
    rfl
  · rintro f cdv A outer s0 H E w ds Q hr hG ⟨us, us2, wf, g, rfl, h, hl, q⟩
    refine ⟨_, (psd_one (psd_ret (ped_dict2 T.m_dict (pad_cons (ped_lock (i := 0) (j := 1) fun w' _ => (ped_lc (own := [("_law_name", 2)]) sc_led.nd (pid_frz (ped_var 0)) (blkOk_by (own := [("_law_name", 2)]) (N := N_led) (sc := defScope s_led) (by decide +kernel)) (gd_name 2) (gName_mo 2) (by decide) (fun _ _ _ _ _ => (pg_name (i := 2) sc_led.nd rfl (Or.inl rfl))) (fun _ _ _ _ _ => ptsd_nil) (fun _ _ _ _ _ => (ped_tup (pad_cons (ped_dgetF hr (ped_var 1) (ped_var 2)) (pad_cons (ped_dgetF hr (ped_var 0) (ped_var 2)) pad_nil)))) s0)) pad_nil)))), ?_⟩
    refine ⟨_, _, rfl, rfl, grd_int us wf, grd_str us2 g, fun b => ?_⟩
    refine ⟨_, rfl, _, rfl, ?_⟩
    have e : ((wD us fun t => Da.int (wf t)).map fun kv => kD kv.1) = us.map Da.str := by unfold wD; rw [List.map_map]; rfl
    rw [e]
    refine lcD_mapM Da.str (fun t => Da.tup [.str (g t), .int (wf t)]) us (by omega) (fun t ht R hR => ?_) ?_
    · have fin : 2 ≤ sizeLine ∧ R (.tup [.str (g t), .int (wf t)]) := ⟨by decide, hR⟩
      have v1 : valD (wD us fun t => Da.int (wf t)) (.inr t) = some (.int (wf t)) := valD_w ht
      have v2 : valD (wD us2 fun t => Da.str (g t)) (.inr t) = some (.str (g t)) := valD_w (h t ht)
      cases b with
      | true => exact ⟨_, rfl, _, rfl, _, .inr t, _, .inr rfl, rfl, v2, _, rfl, _, rfl, _, .inr t, _, .inr rfl, rfl, v1, fin⟩
      | false => exact ⟨_, rfl, _, rfl, _, .inr t, _, .inl rfl, rfl, v2, _, rfl, _, rfl, _, .inr t, _, .inr rfl, rfl, v1, fin⟩
    · refine ⟨?_, us.map fun t => (.inr (g t), .int (wf t)), _, rfl, ?_, q⟩
      · show nofixs _ = true
        refine nofixs_all fun d hd => ?_
        obtain ⟨t, _, rfl⟩ := List.mem_map.mp hd
        rfl
      · clear q hl h
        induction us with
        | nil => exact .nil
        | cons t us ih => exact .cons rfl (ih (by unfold wD; rw [List.map_map]; rfl))
end
end K37
namespace K37
open PySem PySem.Spec PyProof.Rows L2 Pd
/-- a telling with its names exchanged -/
structure RenT (g : Str → Str) (t t' : Tl) : Prop where
  w : t'.w = t.w
  a : t'.a.Perm (t.a.map g)
  sa : sortedS t'.a = true
  b : t'.b.Perm (t.b.map g)
  sb : sortedS t'.b = true
theorem ren_list {g : Str → Str} : ∀ {tls : List Tl} {ys : List Da}, Paired (fun d y => ∃ t t', d = tlD t ∧ y = tlD t' ∧ RenT g t t') (tls.map tlD) ys → (∀ {t u : Tl}, tlD t = tlD u → t = u) → ∃ tls', ys = tls'.map tlD ∧ Paired (RenT g) tls tls'
  | [], _, .nil, _ => ⟨[], rfl, .nil⟩
  | t :: tls, _, .cons ⟨t0, t', e, rfl, h⟩ q, inj => by
    obtain ⟨tls', rfl, hp⟩ := ren_list q inj
    have := inj e
    subst this
    exact ⟨t' :: tls', rfl, .cons h hp⟩
theorem tlD_inj {t u : Tl} (h : tlD t = tlD u) : t = u := by
  obtain ⟨w1, a1, b1⟩ := t
  obtain ⟨w2, a2, b2⟩ := u
  unfold tlD strsD at h
  simp only [Da.tup.injEq, List.cons.injEq, Da.str.injEq, and_true] at h
  obtain ⟨rfl, h1, h2⟩ := h
  have z : ∀ {a b : List Str}, a.map Da.str = b.map Da.str → a = b := fun {a b} e => by
    have := congrArg (List.map strOf) e
    rwa [strOf_map, strOf_map] at this
  rw [z h1, z h2]
theorem ren_good {g : Str → Str} {ts ts' : List Str} (p : ts'.Perm (ts.map g)) {t t' : Tl} (h : GoodT ts t) (r : RenT g t t') : GoodT ts' t' := by
  have sub : ∀ {a a' : List Str}, SumOf ts a → a'.Perm (a.map g) → sortedS a' = true → SumOf ts' a' := fun s q so =>
    ⟨fun x hx => by
      obtain ⟨y, hy, rfl⟩ := List.mem_map.mp (q.mem_iff.mp hx)
      exact p.mem_iff.mpr (List.mem_map.mpr ⟨y, s.mem y hy, rfl⟩), by rw [q.length_eq, List.length_map]; exact s.len, so⟩
  exact ⟨r.w ▸ h.w, sub h.a r.a r.sa, sub h.b r.b r.sb⟩
theorem ren_all {g : Str → Str} {ts ts' : List Str} (p : ts'.Perm (ts.map g)) : ∀ {tls tls' : List Tl}, Paired (RenT g) tls tls' → (∀ t ∈ tls, GoodT ts t) → ∀ t ∈ tls', GoodT ts' t
  | _, _, .nil, _ => fun _ h => nomatch h
  | _, _, .cons h q, hg => fun x hx => by
    rcases List.mem_cons.mp hx with e | e
    · rw [e]; exact ren_good p (hg _ List.mem_cons_self) h
    · exact ren_all p q (fun y hy => hg y (List.mem_cons_of_mem _ hy)) x e
section
variable {C : Addr} {P : Program} {wd : World} {K : PySem.W.Frag} {mg : Str → Option Value} {base : Heap}
def pRen (K : PySem.W.Frag) (C : Addr) : DSp := fun ds Q => ∃ ts tls us g, ds = [toldD K C ts tls, namD us g] ∧ (∀ t ∈ ts, t ∈ us) ∧ (ts.map g).Nodup ∧ (∀ t ∈ ts, nameS (g t) = true) ∧ ts.length ≤ 6 ∧ tls.length ≤ 63 ∧ (∀ t ∈ tls, GoodT ts t) ∧
  ∀ ts' tls', ts'.Perm (ts.map g) → sortedS ts' = true → Paired (RenT g) tls tls' → Q (toldD K C ts' tls')
theorem pRen_mo : MoP (pRen K C) := fun _ _ _ q ⟨ts, tls, us, g, e, a, b, c, d, f, h, z⟩ => ⟨ts, tls, us, g, e, a, b, c, d, f, h, fun ts' tls' h1 h2 h3 => q _ (z ts' tls' h1 h2 h3)⟩
theorem okp_renamed (T : Txt K mg C) : Calld P wd K mg base 10 "renamed" ["told", "names"] (pRen K C) := by
  refine defC T.dp_renamed scp_renamed ?_ pRen_mo ?_
  · rintro ds Q ⟨ts, tls, us, g, rfl, _⟩
    rfl
  · rintro f0 cdv A outer s0 H E w ds Q hr hG ⟨ts, tls, us, g, rfl, hu, nd, nm, hl6, hl, hg, q⟩
    refine ⟨_, (psd_cons (psd_setLc (i := 2) (own := [("word", 3), ("one", 4), ("other", 5)]) scp_renamed.nd (pid_own ((okI_iter T).up (by decide)) hr hG (ped_var 0)) (blkOk_by (own := [("word", 3), ("one", 4), ("other", 5)]) (N := Np_renamed) (sc := defScope sp_renamed) (by decide +kernel)) (gd_tup3 3 4 5) (gTup_mo (gCons_mo (gName_mo 3) (gCons_mo (gName_mo 4) (gCons_mo (gName_mo 5) gNil_mo)))) (by decide) (fun _ _ _ _ _ => (pg_tup rfl (pgs_cons (pg_name (i := 3) scp_renamed.nd rfl (Or.inl rfl)) (pgs_cons (pg_name (i := 4) scp_renamed.nd rfl (Or.inl rfl)) (pgs_cons (pg_name (i := 5) scp_renamed.nd rfl (Or.inl rfl)) pgs_nil))))) (fun _ _ _ _ _ => ptsd_nil) (fun _ _ _ _ _ => (ped_tup (pad_cons (ped_var 3) (pad_cons (ped_f ((okp_in_names T).up (by decide)) hr hG (pad_cons (ped_var 4) (pad_cons (ped_var 1) pad_nil))) (pad_cons (ped_f ((okp_in_names T).up (by decide)) hr hG (pad_cons (ped_var 5) (pad_cons (ped_var 1) pad_nil))) pad_nil))))) s0 (sw_true rfl rfl rfl (by decide +kernel)))
    (psd_one (psd_ret (ped_makeI ((okC_Told T).up (by decide)) hr hG (pad_cons (ped_f ((okp_in_names T).up (by decide)) hr hG (pad_cons (ped_propI ((okP_things T).up (by decide)) hr hG (ped_var 0)) (pad_cons (ped_var 1) pad_nil))) (pad_cons (ped_var 2) pad_nil)))))), ?_⟩
    refine ⟨_, rfl, _, _, rfl, told_tls ts tls, noL_tls tls, ?_⟩
    refine lcD_all0 (fun d y => ∃ t t', d = tlD t ∧ y = tlD t' ∧ RenT g t t') (tls.map tlD) (by rw [List.length_map]; omega) (fun d hd R hR => ?_) fun ys hy => ?_
    · obtain ⟨t, ht, rfl⟩ := List.mem_map.mp hd
      have gt := hg t ht
      refine ⟨_, _, _, rfl, ?_⟩
      refine ⟨_, rfl, _, rfl, _, rfl, us, t.a, g, rfl, fun x hx => hu x (gt.a.mem x hx), Nat.le_trans gt.a.len (by decide), fun c1 p1 s1 => ?_⟩
      refine ⟨_, rfl, _, rfl, us, t.b, g, rfl, fun x hx => hu x (gt.b.mem x hx), Nat.le_trans gt.b.len (by decide), fun c2 p2 s2 => ?_⟩
      exact ⟨(show 3 ≤ sizeLine by decide), hR (tlD ⟨t.w, c1, c2⟩) ⟨t, ⟨t.w, c1, c2⟩, rfl, rfl, rfl, p1, s1, p2, s2⟩⟩
    · obtain ⟨tls', rfl, hp⟩ := ren_list hy tlD_inj
      refine ⟨_, rfl, ⟨_, rfl⟩, ts, tls, rfl, hl, _, rfl, us, ts, g, rfl, hu, by omega, fun ts' p so => ?_⟩
      have ll : tls'.length = tls.length := (Paired.length hp).symm
      refine ⟨_, rfl, ts', tls', _, rfl, .inl rfl, ⟨p.nodup_iff.mpr nd, so, fun x hx => ?_⟩, by rw [p.length_eq, List.length_map]; exact hl6, by omega, ren_all p hp hg, noLf_told ts' tls', q ts' tls' p so hp⟩
      obtain ⟨y, hy', rfl⟩ := List.mem_map.mp (p.mem_iff.mp hx)
      exact nm y hy'
end
end K37
namespace K37
open PySem PySem.Spec PyProof.Rows L2 Pd
theorem words_due (x y : Int) : [soB "alike" x y, soB "heavier" x y, soB "heavier" y x, soB "unlike" x y] =
    [decide (wordOf (x - y) = "alike"), decide (wordOf (x - y) = "heavier"), decide (wordOf (x - y) = "lighter"), !decide (wordOf (x - y) = "alike")] := by
  have n1 : (("alike" : Str) = "heavier") = False := eq_false (by decide +kernel)
  have n2 : (("unlike" : Str) = "heavier") = False := eq_false (by decide +kernel)
  have n3 : (("unlike" : Str) = "alike") = False := eq_false (by decide +kernel)
  have n4 : (("heavier" : Str) = "alike") = False := eq_false (by decide +kernel)
  have n5 : (("heavier" : Str) = "lighter") = False := eq_false (by decide +kernel)
  have n6 : (("lighter" : Str) = "alike") = False := eq_false (by decide +kernel)
  have n7 : (("lighter" : Str) = "heavier") = False := eq_false (by decide +kernel)
  have n8 : (("alike" : Str) = "lighter") = False := eq_false (by decide +kernel)
  unfold soB wordOf
  rcases Int.lt_trichotomy x y with h | h | h
  · have a1 : ¬ x - y = 0 := by omega
    have a2 : ¬ x - y > 0 := by omega
    have a3 : ¬ x = y := by omega
    have a4 : ¬ x > y := by omega
    have a5 : y > x := by omega
    simp [a1, a2, a3, a4, a5, n1, n2, n3, n6, n7]
  · subst h
    simp [n1, n2, n3, n8]
  · have a1 : ¬ x - y = 0 := by omega
    have a2 : x - y > 0 := by omega
    have a3 : ¬ x = y := by omega
    have a5 : ¬ y > x := by omega
    simp [a1, a2, a3, a5, h, n1, n2, n3, n4, n5]
section
variable {C : Addr} {P : Program} {wd : World} {K : PySem.W.Frag} {mg : Str → Option Value} {base : Heap}
def pWR : DSp := fun ds Q => ∃ (ts : List Str) (w : Str → Int) (a b : List Str), ds = [.dct (wD ts fun t => .int (w t)), .tup [strsD a, strsD b], strsD ts] ∧ Good ts ∧ ts.length ≤ 6 ∧ SumOf ts a ∧ SumOf ts b ∧ Q (.bl true)
theorem pWR_mo : MoP pWR := fun _ _ _ q ⟨ts, w, a, b, e, h1, h2, h3, h4, z⟩ => ⟨ts, w, a, b, e, h1, h2, h3, h4, q _ z⟩
theorem ok_words_right (T : Txt K mg C) : Calld P wd K mg base 10 "_law_words_right" ["_law_worths_here", "_law_pair_here", "_law_things_here"] pWR := by
  refine defC T.d_words_right sc_words_right ?_ pWR_mo ?_
  · rintro ds Q ⟨ts, w, a, b, rfl, _⟩
    rfl
  · rintro f cdv A outer s0 H E w ds Q hr hG ⟨ts, wf, a, b, rfl, g, hl6, ha, hb, q⟩
    refine ⟨_, (psd_cons (psd_set (i := 3) (ped_f ((okp_word_in T).up (by decide)) hr hG (pad_cons (ped_var 0) (pad_cons (ped_var 1) pad_nil))) sc_words_right.nd)
    (psd_cons (psd_set (i := 4) (ped_lst (pad_cons (ped_eq hr (ped_var 3) ped_str) (pad_cons (ped_eq hr (ped_var 3) ped_str) (pad_cons (ped_eq hr (ped_var 3) ped_str) (pad_cons (ped_ne hr (ped_var 3) ped_str) pad_nil))))) sc_words_right.nd)
    (psd_cons (psd_setF (i := 5) (pfd_lst (pad_cons (ped_tup (pad_cons ped_str (pad_cons (ped_at (fun _ _ => rfl) (ped_var 1) ped_int) (pad_cons (ped_at (fun _ _ => rfl) (ped_var 1) ped_int) pad_nil)))) (pad_cons (ped_tup (pad_cons ped_str (pad_cons (ped_at (fun _ _ => rfl) (ped_var 1) ped_int) (pad_cons (ped_at (fun _ _ => rfl) (ped_var 1) ped_int) pad_nil)))) (pad_cons (ped_tup (pad_cons ped_str (pad_cons (ped_at (fun _ _ => rfl) (ped_var 1) ped_int) (pad_cons (ped_at (fun _ _ => rfl) (ped_var 1) ped_int) pad_nil)))) pad_nil)))) sc_words_right.nd)
    (psd_cons (psd_app (i := 5) (ped_tup (pad_cons ped_str (pad_cons (ped_at (fun _ _ => rfl) (ped_var 1) ped_int) (pad_cons (ped_at (fun _ _ => rfl) (ped_var 1) ped_int) pad_nil)))))
    (psd_one (psd_ret (ped_open fun _ => (ped_eq hr (ped_lc (own := [("_law_one_here", 6)]) sc_words_right.nd (pid_list (ped_var 5)) (blkOk_by (own := [("_law_one_here", 6)]) (N := N_words_right) (sc := defScope s_words_right) (by decide +kernel)) (gd_name 6) (gName_mo 6) (by decide) (fun _ _ _ _ _ => (pg_name (i := 6) sc_words_right.nd rfl (Or.inl rfl))) (fun _ _ _ _ _ => ptsd_nil) (fun _ _ _ _ _ => (ped_f ((okp_fits T).up (by decide)) hr hG (pad_cons (ped_makeIK K ((okC_Told T).up (by decide)) hr hG (pad_cons (ped_var 2) (pad_cons (ped_lst (pad_cons (ped_var 6) pad_nil)) pad_nil))) (pad_cons (ped_var 0) pad_nil)))) s0) (ped_var 4))))))))), ?_⟩
    refine ⟨_, rfl, _, rfl, ts, wf, a, b, rfl, ha.mem, hb.mem, Nat.le_trans ha.len (by decide), Nat.le_trans hb.len (by decide), ?_⟩
    have s1 := shp_asc (x := "alike") (by decide +kernel)
    have s2 := shp_asc (x := "heavier") (by decide +kernel)
    have s3 := shp_asc (x := "lighter") (by decide +kernel)
    have s0' := word_shp ((a.map wf).sum - (b.map wf).sum)
    refine ⟨_, rfl, s0', s1, _, rfl, s0', s2, _, rfl, s0', s3, _, rfl, s0', s1, (show 4 ≤ sizeLine by decide), ?_⟩
    refine ⟨_, rfl, _, rfl, _, rfl, _, rfl, (show 3 ≤ sizeLine by decide), _, rfl, _, rfl, _, rfl, _, rfl, (show 3 ≤ sizeLine by decide), _, rfl, _, rfl, _, rfl, _, rfl, (show 3 ≤ sizeLine by decide), (show 3 ≤ sizeLine by decide), ?_⟩
    refine ⟨_, rfl, _, rfl, _, rfl, _, rfl, _, rfl, (show 3 ≤ sizeLine by decide), (show 3 < sizeLine by decide), ?_⟩
    have g1 : GoodT ts ⟨"alike", a, b⟩ := ⟨by show ("alike" : Str) ∈ words; decide +kernel, ha, hb⟩
    have g2 : GoodT ts ⟨"heavier", a, b⟩ := ⟨by show ("heavier" : Str) ∈ words; decide +kernel, ha, hb⟩
    have g3 : GoodT ts ⟨"heavier", b, a⟩ := ⟨by show ("heavier" : Str) ∈ words; decide +kernel, hb, ha⟩
    have g4 : GoodT ts ⟨"unlike", a, b⟩ := ⟨by show ("unlike" : Str) ∈ words; decide +kernel, ha, hb⟩
    refine ⟨_, rfl, _, rfl, ?_⟩
    refine lcD_mapM tlD (fun t => Da.bl ([t].all (okT wf))) [⟨"alike", a, b⟩, ⟨"heavier", a, b⟩, ⟨"heavier", b, a⟩, ⟨"unlike", a, b⟩] (by show 4 ≤ 16777216; decide) (fun t ht R hR => ?_) ?_
    · have gt : GoodT ts t := by
        simp only [List.mem_cons, List.not_mem_nil, or_false] at ht
        rcases ht with e | e | e | e <;> rw [e] <;> assumption
      have gts : ∀ x ∈ [t], GoodT ts x := fun x hx => by rw [List.mem_singleton.mp hx]; exact gt
      exact ⟨_, rfl, _, rfl, (show 1 ≤ sizeLine by decide), ts, [t], _, rfl, .inl rfl, g, hl6, (show 1 ≤ 63 by decide), gts, noLf_told ts [t], _, rfl, ts, [t], ts, wf, rfl, List.Perm.refl _, hl6, (show 1 ≤ 63 by decide), gts, hR⟩
    · have k := words_due (wOf wf a) (wOf wf b)
      have e1 : ∀ t : Tl, [t].all (okT wf) = okT wf t := fun t => by rw [List.all_cons, List.all_nil, Bool.and_true]
      simp only [List.cons.injEq, and_true] at k
      refine ⟨_, rfl, ?_⟩
      simp only [List.map_cons, List.map_nil, e1, okT, k.1, k.2.1, k.2.2.1, k.2.2.2, if_neg Bool.false_ne_true, if_true, eqd_str]
      have sz := sz_lst (ds := [Da.bl (decide (wordOf (wOf wf a - wOf wf b) = "alike")), .bl (decide (wordOf (wOf wf a - wOf wf b) = "heavier")), .bl (decide (wordOf (wOf wf a - wOf wf b) = "lighter")), .bl (!decide (wordOf (wOf wf a - wOf wf b) = "alike"))]) (n := 0) (c := 5) fun d hd => by
        simp only [List.mem_cons, List.not_mem_nil, or_false] at hd
        rcases hd with e | e | e | e <;> rw [e] <;> exact sz_bl _
      refine ⟨sz.shp (by decide), sz.shp (by decide), by rfl, ?_⟩
      have fin := eqd_refl sz
      exact (congrArg (fun z => Q (.bl z)) fin).mpr q
end
end K37
namespace K37
open PySem PySem.Spec PyProof.Rows L2 Pd
/-- each with each one behind it -/
def pairsF (S : List (List Str)) : List (List Str × List Str) := S.zipIdx.flatMap fun p => (S.drop (p.2 + 1)).map fun o => (p.1, o)
def pairD (p : List Str × List Str) : Da := .tup [strsD p.1, strsD p.2]
def pF (S : List (List Str)) : Da → List Da
  | .tpw [.int k, x] => (S.drop (k.toNat + 1)).map fun o => .tup [x, strsD o]
  | _ => []
theorem cut_from {xs : List Da} {i : Nat} (h : i + 1 ≤ xs.length) : Pd.cutD xs (some (((i : Nat) : Int) + 1)) none = xs.drop (i + 1) := by
  have e : HT.sIx xs.length 0 (some (((i : Nat) : Int) + 1)) = i + 1 := by
    have z := HT.sIx_nat xs.length 0 (i + 1)
    rw [Nat.min_eq_left h] at z
    exact z
  have e2 : HT.sIx xs.length xs.length none = xs.length := rfl
  unfold Pd.cutD
  rw [e, e2]
  exact List.take_of_length_le (by rw [List.length_drop]; omega)
theorem pF_all (S : List (List Str)) : (enumD (S.map strsD)).flatMap (pF S) = (pairsF S).map pairD := by
  rw [enumD_map, List.flatMap_map]
  unfold pairsF
  rw [List.map_flatMap]
  congr 1
  funext p
  show (S.drop (((p.2 : Nat) : Int).toNat + 1)).map _ = _
  rw [List.map_map, Int.toNat_natCast]
  rfl
theorem flat_few {α β : Type} (F : α → List β) (n : Nat) : ∀ l : List α, (∀ x ∈ l, (F x).length ≤ n) → (l.flatMap F).length ≤ l.length * n
  | [], _ => by simp
  | x :: l, h => by
    rw [List.flatMap_cons, List.length_append, List.length_cons, Nat.succ_mul]
    have a := h x List.mem_cons_self
    have b := flat_few F n l fun y hy => h y (List.mem_cons_of_mem _ hy)
    omega
theorem pairs_few {S : List (List Str)} {n : Nat} (h : S.length ≤ n) : (pairsF S).length ≤ n * n := by
  refine Nat.le_trans (flat_few _ S.length _ fun p _ => by rw [List.length_map, List.length_drop]; omega) ?_
  rw [List.length_zipIdx]
  exact Nat.mul_le_mul h h
section
variable {C : Addr} {P : Program} {wd : World} {K : PySem.W.Frag} {mg : Str → Option Value} {base : Heap}
def pPairs : DSp := fun ds Q => ∃ (ts : List Str) (m : Nat), ds = [strsD ts, .int (m : Nat)] ∧ Asc ts ∧ ts.length ≤ 7 ∧ m ≤ 2 ∧ Q (.lst ((pairsF (sumsF ts m)).map pairD))
theorem pPairs_mo : MoP pPairs := fun _ _ _ q ⟨ts, m, e, a, b, c, z⟩ => ⟨ts, m, e, a, b, c, q _ z⟩
theorem okp_pairs (T : Txt K mg C) : Calld P wd K mg base 2 "pairs" ["things", "many"] pPairs := by
  refine defC T.dp_pairs scp_pairs ?_ pPairs_mo ?_
  · rintro ds Q ⟨ts, m, rfl, _⟩
    rfl
  · rintro f cdv A outer s0 H E w ds Q hr hG ⟨ts, m, rfl, asc, hl, hm, q⟩
    refine ⟨_, (psd_cons (psd_set (i := 2) (ped_f ((okp_sums T).up (by decide)) hr hG (pad_cons (ped_var 0) (pad_cons (ped_var 1) pad_nil))) scp_pairs.nd)
    (psd_one (psd_ret (pfd_lc2 (own := [("place", 3), ("one", 4), ("other", 5)]) (vs1 := [5]) scp_pairs.nd (pid_enum T.m_enumerate (ped_var 2)) (blkOk_by (own := [("place", 3), ("one", 4), ("other", 5)]) (N := Np_pairs) (sc := defScope sp_pairs) (by decide +kernel)) (by decide) (gds_tup2 3 4) (gTup_mo (gCons_mo (gName_mo 3) (gCons_mo (gName_mo 4) gNil_mo))) (by decide) (gds_name 5) (gName_mo 5) (by decide) (fun _ _ _ _ _ => (pg_tup rfl (pgs_cons (pg_name (i := 3) scp_pairs.nd rfl (Or.inl rfl)) (pgs_cons (pg_name (i := 4) scp_pairs.nd rfl (Or.inl rfl)) pgs_nil)))) (fun _ _ _ _ _ => ptsd_nil) (fun _ _ _ _ _ => (pid_list (ped_slice (ped_var 2) (pod_some (ped_add (ped_var 3) ped_int)) pod_none))) (fun _ _ _ _ _ => (pg_name (i := 5) scp_pairs.nd rfl (Or.inl rfl))) (fun _ _ _ _ _ => ptsd_nil) (fun _ _ _ _ _ => (ped_tup (pad_cons (ped_var 4) (pad_cons (ped_var 5) pad_nil)))) s0).ped))), ?_⟩
    refine ⟨_, rfl, _, rfl, ts, m, _, rfl, .inr rfl, asc, hl, by omega, ?_⟩
    have few : (sumsF ts m).length ≤ 343 := Nat.le_trans (sumsF_len ts m) (pow_room hl (by omega))
    refine ⟨_, rfl, _, rfl, ?_⟩
    refine lcN_run (pF (sumsF ts m)) 117649 _ [] (by rw [pF_all, List.length_map, List.length_nil]; have := pairs_few few; omega) (fun d hd acc k' h2 hk => ?_) (by rw [List.nil_append, pF_all]; exact q)
    rw [enumD_map] at hd
    obtain ⟨⟨one, i⟩, hp, rfl⟩ := List.mem_map.mp hd
    refine ⟨_, _, rfl, ?_⟩
    show dItL (dSl (dVar 2) (dPart (dOp addD (dVar 3) (dC (.int 1)))) dNoP) _ _
    refine ⟨_, rfl, _, rfl, _, rfl, _, rfl, ?_⟩
    have hi : i < (sumsF ts m).length := (List.mem_zipIdx hp).2.1 |> fun h => by simpa using h
    have e : Pd.cutD ((sumsF ts m).map strsD) (some (((i : Nat) : Int) + 1)) none = ((sumsF ts m).drop (i + 1)).map strsD := by
      rw [List.map_drop]
      exact cut_from (by rw [List.length_map]; omega)
    show lcK _ _ _ _ _ _ (Pd.cutD ((sumsF ts m).map strsD) (some (((i : Nat) : Int) + 1)) none) _
    rw [e]
    have eF : pF (sumsF ts m) (.tpw [.int ((i : Nat) : Int), strsD one]) = (((sumsF ts m).drop (i + 1)).map strsD).filterMap fun d => some (.tup [strsD one, d]) := by
      rw [List.filterMap_eq_map', List.map_map]
      show ((sumsF ts m).drop (((i : Nat) : Int).toNat + 1)).map _ = _
      rw [Int.toNat_natCast]
      rfl
    have h3 : acc.length + (pF (sumsF ts m) (.tpw [.int ((i : Nat) : Int), strsD one])).length ≤ 117649 := h2
    have hk' : k' (acc ++ pF (sumsF ts m) (.tpw [.int ((i : Nat) : Int), strsD one])) := hk
    rw [eF, List.filterMap_eq_map', List.length_map] at h3
    rw [eF] at hk'
    refine lcK_run _ _ acc (by rw [sizeLine_eq]; omega) (fun d hd Y Z hY _ => ?_) hk'
    exact ⟨_, rfl, _, rfl, (show 2 ≤ sizeLine by decide), hY _ rfl⟩
end
end K37
namespace K37
open PySem PySem.Spec PyProof.Rows L2 Pd
/-! ### how many sums -/
def okI (js : List Nat) (k : Nat) : Bool := match js.getLast? with | some j => decide (j ≤ k) | none => true
def nextI (n : Nat) (js : List Nat) : List (List Nat) := ((List.range n).filter (okI js)).map fun k => js ++ [k]
def sumsI (n : Nat) : Nat → List (List Nat)
  | 0 => [[]]
  | m + 1 => (sumsI n m).flatMap (nextI n)
theorem sumsI_len : ∀ n < 7, ∀ m < 4, (sumsI n m).length ≤ 56 := by decide +kernel
/-- strictly rising texts -/
def Ris (ts : List Str) : Prop := ts.Pairwise fun a b => ltS b a = false ∧ ltS a b = true
def gI (ts : List Str) (k : Nat) : Str := ts.getD k ""
theorem gI_at {ts : List Str} {k : Nat} (h : k < ts.length) : gI ts k = ts[k] := by
  unfold gI
  rw [List.getD_eq_getElem?_getD, List.getElem?_eq_getElem h]
  rfl
theorem gI_all (ts : List Str) : (List.range ts.length).map (gI ts) = ts := by
  refine List.ext_getElem (by rw [List.length_map, List.length_range]) fun i h1 h2 => ?_
  rw [List.getElem_map, List.getElem_range, gI_at h2]
theorem lt_self (a : Str) : ltS a a = false := by
  exact decide_eq_false (List.lt_irrefl _)
theorem ris_lt {ts : List Str} (h : Ris ts) {j k : Nat} (hj : j < ts.length) (hk : k < ts.length) : (!ltS (gI ts k) (gI ts j)) = decide (j ≤ k) := by
  rw [gI_at hj, gI_at hk]
  rcases Nat.lt_trichotomy j k with l | e | l
  · have := (List.pairwise_iff_getElem.mp h j k hj hk l).1
    rw [this, decide_eq_true (by omega)]
    rfl
  · subst e
    rw [lt_self, decide_eq_true (Nat.le_refl _)]
    rfl
  · have := (List.pairwise_iff_getElem.mp h k j hk hj l).2
    rw [this, decide_eq_false (by omega)]
    rfl
theorem sumsI_lt {n : Nat} : ∀ {m : Nat} {js : List Nat}, js ∈ sumsI n m → ∀ j ∈ js, j < n
  | 0, js, h, j, hj => by
    have e : js = [] := by simpa [sumsI] using h
    subst e
    cases hj
  | m + 1, js, h, j, hj => by
    obtain ⟨p, hp, hq⟩ := List.mem_flatMap.mp h
    unfold nextI at hq
    obtain ⟨x, hx, rfl⟩ := List.mem_map.mp hq
    rcases List.mem_append.mp hj with z | z
    · exact sumsI_lt hp j z
    · rw [List.mem_singleton.mp z]
      exact List.mem_range.mp (List.mem_filter.mp hx).1
theorem nextS_I {ts : List Str} (h : Ris ts) {js : List Nat} (hj : ∀ j ∈ js, j < ts.length) : nextS ts (js.map (gI ts)) = (nextI ts.length js).map (List.map (gI ts)) := by
  unfold nextS nextI
  conv => lhs; rw [← gI_all ts]
  rw [List.filter_map, List.map_map, List.map_map, gI_all]
  have e : ∀ k ∈ List.range ts.length, (okN (js.map (gI ts)) ∘ gI ts) k = okI js k := fun k hk => by
    show okN _ (gI ts k) = _
    unfold okN okI
    rw [List.getLast?_map]
    cases q : js.getLast? with
    | none => rfl
    | some j => exact ris_lt h (hj j (List.mem_of_getLast? q)) (List.mem_range.mp hk)
  rw [List.filter_congr e]
  refine List.map_congr_left fun k _ => ?_
  show _ = List.map (gI ts) (js ++ [k])
  rw [List.map_append]
  rfl
theorem sumsF_I {ts : List Str} (h : Ris ts) : ∀ m, sumsF ts m = (sumsI ts.length m).map (List.map (gI ts))
  | 0 => rfl
  | m + 1 => by
    show (sumsF ts m).flatMap _ = ((sumsI ts.length m).flatMap _).map _
    rw [sumsF_I h m, List.flatMap_map, List.map_flatMap]
    rw [List.flatMap_def, List.flatMap_def]
    exact congrArg _ (List.map_congr_left fun js hjs => nextS_I h (sumsI_lt hjs))
theorem sums_few {ts : List Str} (h : Ris ts) (hl : ts.length ≤ 6) {m : Nat} (hm : m ≤ 3) : (sumsF ts m).length ≤ 56 := by
  rw [sumsF_I h, List.length_map]
  exact sumsI_len _ (by omega) _ (by omega)
theorem ris_of {ts : List Str} (h : sortedS ts = true) (nd : ts.Nodup) : Ris ts := by
  have pw := sorted_pw h
  refine (pw.and nd).imp fun {a b} ⟨l, ne⟩ => ⟨?_, ?_⟩
  · exact decide_eq_false l
  · refine decide_eq_true ?_
    refine Decidable.byContradiction fun q => ne (leS_anti l q)
/-! ### groups -/
def wtOf (w : Str → Int) (a : List Str) : Int := (a.map w).sum
def clsL (w : Str → Int) (S : List (List Str)) (ks : List Int) : List (List (List Str)) := ks.map fun n => S.filter fun a => wtOf w a == n
def clsD (w : Str → Int) (S : List (List Str)) (ks : List Int) : List Da := (clsL w S ks).map fun g => .lst (g.map strsD)
theorem clsD_at {w : Str → Int} {S : List (List Str)} {ks : List Int} {k : Nat} (h : k < (clsD w S ks).length) (hk : k < ks.length) : (clsD w S ks)[k] = .lst ((S.filter fun a => wtOf w a == ks[k]).map strsD) := by
  simp [clsD, clsL]
/-- the numbers of all, rising -/
structure Nums (w : Str → Int) (S : List (List Str)) (ks : List Int) : Prop where
  pw : ks.Pairwise (· < ·)
  mem : ∀ k, k ∈ ks ↔ k ∈ S.map (wtOf w)
theorem Nums.uniq {w : Str → Int} {S : List (List Str)} {a b : List Int} (h : Nums w S a) (h2 : Nums w S b) : a = b := by
  have nd : ∀ {l : List Int}, l.Pairwise (· < ·) → l.Nodup := fun p => p.imp fun h => by omega
  have key : ∀ (a b : List Int), a.Pairwise (· < ·) → b.Pairwise (· < ·) → (∀ k, k ∈ a ↔ k ∈ b) → a = b := by
    intro a
    induction a with
    | nil =>
      intro b _ _ m
      cases b with
      | nil => rfl
      | cons x b => exact absurd ((m x).mpr List.mem_cons_self) List.not_mem_nil
    | cons x a ih =>
      intro b pa pb m
      cases b with
      | nil => exact absurd ((m x).mp List.mem_cons_self) List.not_mem_nil
      | cons y b =>
        have qa := List.pairwise_cons.mp pa
        have qb := List.pairwise_cons.mp pb
        have e : x = y := by
          rcases List.mem_cons.mp ((m x).mp List.mem_cons_self) with z | z
          · exact z
          · rcases List.mem_cons.mp ((m y).mpr List.mem_cons_self) with z' | z'
            · exact z'.symm
            · have h1 := qb.1 x z
              have h2 := qa.1 y z'
              omega
        subst e
        rw [ih b qa.2 qb.2 fun k => ⟨fun hk => ?_, fun hk => ?_⟩]
        · rcases List.mem_cons.mp ((m k).mp (List.mem_cons_of_mem _ hk)) with z | z
          · have := qa.1 k hk; omega
          · exact z
        · rcases List.mem_cons.mp ((m k).mpr (List.mem_cons_of_mem _ hk)) with z | z
          · have := qb.1 k hk; omega
          · exact z
  exact key a b h.pw h2.pw fun k => (h.mem k).trans (h2.mem k).symm
section
variable {C : Addr} {P : Program} {wd : World} {K : PySem.W.Frag} {mg : Str → Option Value} {base : Heap}
end
end K37
namespace K37
open PySem PySem.Spec PyProof.Rows L2 Pd
def tagT (w : Str → Int) (S : List (List Str)) : List (Int × Da) := S.map fun a => (wtOf w a, strsD a)
theorem tag_noL (w : Str → Int) (S : List (List Str)) : noLs ((tagT w S).map (·.2)) = true := by
  have z : ∀ a : List Str, noLs (a.map Da.str) = true := by
    intro a
    induction a with
    | nil => rfl
    | cons x a ih => rw [List.map_cons, noLs, ih]; rfl
  induction S with
  | nil => rfl
  | cons a S ih =>
    show noLs (strsD a :: (tagT w S).map (·.2)) = true
    rw [noLs, ih]
    show (noLs (a.map Da.str) && true) = true
    rw [z a]
    rfl
theorem tag_grp (w : Str → Int) (S : List (List Str)) (k : Int) : ((tagT w S).filter fun p => p.1 == k).map (·.2) = (S.filter fun a => wtOf w a == k).map strsD := by
  unfold tagT
  rw [List.filter_map, List.map_map]
  rfl
theorem tag_keys (w : Str → Int) (S : List (List Str)) : (tagT w S).map (·.1) = S.map (wtOf w) := by
  unfold tagT
  rw [List.map_map]
  rfl
theorem grp_keys (T : List (Int × Da)) (ks : List Int) : (grpD T ks).map (·.1) = ks.map Sum.inl := by
  unfold grpD
  rw [List.map_map]
  rfl
theorem valD_grp {T : List (Int × Da)} {ks : List Int} {n : Int} (h : n ∈ ks) : valD (grpD T ks) (.inl n) = some (.lst ((T.filter fun p => p.1 == n).map (·.2))) := by
  induction ks with
  | nil => cases h
  | cons k ks ih =>
    by_cases e : k = n
    · subst e
      show valD ((Sum.inl k, _) :: grpD T ks) _ = _
      unfold valD
      rw [List.find?_cons_of_pos (by simp)]
      rfl
    · show valD ((Sum.inl k, _) :: grpD T ks) _ = _
      unfold valD
      rw [List.find?_cons_of_neg (by simpa using e)]
      exact ih ((List.mem_cons.mp h).resolve_left fun z => e z.symm)
def gF (T : List (Int × Da)) : Da → Option Da
  | .int n => some (.lst ((T.filter fun p => p.1 == n).map (·.2)))
  | _ => none
theorem gF_map (T : List (Int × Da)) : ∀ ns : List Int, (ns.map Da.int).filterMap (gF T) = (ns.map fun n => (T.filter fun p => p.1 == n).map (·.2)).map Da.lst
  | [] => rfl
  | n :: ns => by
    rw [List.map_cons, List.map_cons, List.map_cons, ← gF_map T ns]
    exact List.filterMap_cons_some rfl
section
variable {C : Addr} {P : Program} {wd : World} {K : PySem.W.Frag} {mg : Str → Option Value} {base : Heap}
def pClsR : DSpF := fun ds Q => ∃ (ts us : List Str) (w : Str → Int) (m : Nat), ds = [.dct (wD us fun t => .int (w t)), .int (m : Nat)] ∧ ts.Perm us ∧ sortedS ts = true ∧ ts.Nodup ∧ Asc ts ∧ ts.length ≤ 6 ∧ m ≤ 3 ∧ ∀ ks : List Int, Nums w (sumsF ts m) ks → Q (clsD w (sumsF ts m) ks)
theorem pClsR_mo : MoPF pClsR := fun _ _ _ q ⟨ts, us, w, m, e, a, b, c, d, f, g, z⟩ => ⟨ts, us, w, m, e, a, b, c, d, f, g, fun ks h => q _ (z ks h)⟩
theorem okp_classes (T : Txt K mg C) : CalldR P wd K mg base 2 "classes" ["worths", "many"] pClsR := by
  obtain ⟨f, fd, F, a, b⟩ := T.dp_classes.ex
  refine ⟨⟨f, fd, FunG.ok F scp_classes ?_ ?_, a, F.kp, b⟩, pClsR_mo⟩
  · rintro vs H Q E ⟨g, W, ds, k1, dv, ts, us, w, m, rfl, _⟩
    rw [dv.len]
    rfl
  · rintro cdv A outer s0 H vs Q E hr hG ⟨g, W, ds, k1, dv, ts, us, wf, m, rfl, pm, so, nd, asc, hl, hm, q⟩
    let w : Wd := ⟨H, g, W⟩
    have S0 := start_stt (N := Np_classes) k1 dv
    refine ⟨_, pss_cons (ps_set (i := 2) scp_classes.nd rfl (.inr rfl) pe_dnewK)
      (pss_cons (ps_for (by exact PassesOwn.never) rfl
          (pid_list (w := w) (ped_f ((okp_sums T).up (by decide)) hr hG (pad_cons (pfd_sortedDict T.m_sorted (pad_cons (ped_var 0) pad_nil)).ped (pad_cons (ped_var 1) pad_nil)))).pi
          (pg_name (i := 3) scp_classes.nd rfl (.inl rfl))
          (pss_one (ps_expr (pe_bm PySem.F.plainAttrs_list PySem.F.slot_list_append PySem.F.type_list_append mt_append
            (pe_dsetd (pv 2) (ped_f (w := w) ((okp_worth T).up (by decide)) hr hG (pad_cons (ped_var 0) (pad_cons (ped_var 3) pad_nil))).pe (pe_lst pa_nil) ⟨rfl, rfl, rfl, rfl⟩) (pa_cons (pv 3) pa_nil)))))
        (pss_one (ps_ret (pe_any fun w2 : Wd => (pfd_lc (w := w2) (own := [("key", 4)]) scp_classes.nd (pid_list (pfd_sortedDictI T.m_sorted (pad_cons (ped_var 2) pad_nil)).ped)
          (blkOk_by (own := [("key", 4)]) (N := Np_classes) (sc := defScope sp_classes) (by decide +kernel)) (gds_name 4) (gName_mo 4) (by decide)
          (fun _ _ _ _ _ => (pg_name (i := 4) scp_classes.nd rfl (Or.inl rfl))) (fun _ _ _ _ _ => ptsd_nil) (fun _ _ _ _ _ => (ped_dget hr (ped_var 2) (ped_var 4))) s0).pe)))), ?_⟩
    have wok : ∀ a, w.W0 a = true → ∃ o, w.H0 a = some o := fun a h => k1.al a h
    intro p np
    obtain ⟨S1, _, sm1, ge, h0, oN⟩ := S0.hideO (o := .dK []) np
    have S2 := (S1.forget 2 (some (.ref p))).claim 2 hideD_at h0 ge oN (.inr ⟨_, upd_same⟩) rfl
    refine ⟨_, _, _, S2, ?_⟩
    refine ⟨_, rfl, wD us (fun t => .int (wf t)), us, rfl, wD_keys _ _, by rw [← pm.length_eq]; omega, fun ys py sy => ?_⟩
    have ey : ys = ts := sorted_uniq sy so (py.trans pm.symm)
    subst ey
    have ris := ris_of so nd
    have few := sums_few ris hl hm
    have few63 : ∀ a ∈ sumsF ys m, a.length ≤ 63 := fun a ha => by have := (sumsF_mem ha).1; omega
    have inn : ∀ a ∈ sumsF ys m, ∀ t ∈ a, t ∈ us := fun a ha t ht => pm.mem_iff.mp ((sumsF_mem ha).2 t ht)
    refine ⟨_, rfl, ys, m, _, rfl, .inl rfl, asc, by omega, hm, _, rfl, ?_⟩
    intro J H2 e2 k2 wk
    have hs0 : ∃ s4, (start Np_classes vs).length = 5 ∧ ((start Np_classes vs).set 2 (some (.ref p)))[2]? = some (some (.ref p)) ∧ s4 = 0 := by
      have hl5 : (start Np_classes vs).length = 5 := by rw [← S0.len]; rfl
      exact ⟨0, hl5, by rw [List.getElem?_set_self (by omega)], rfl⟩
    obtain ⟨_, _, hs2, _⟩ := hs0
    refine ⟨fun i mm σ' H' => mm = (sumsF ys m).length - i ∧ i ≤ (sumsF ys m).length ∧ ∃ W' own' s3 ks q, Stt K w W' own' [.dat (.dct (wD us fun t => .int (wf t))), .dat (.int (m : Nat)), .no, s3, .no] σ' H' ∧ Sm (hid (hideD W p) H2) (hid W' H') ∧ Grp K w.g W' own' 2 H' p (tagT wf ((sumsF ys m).take i)) ks q ∧ σ'[2]? = some (some (.ref p)),
      ⟨(sumsF ys m).length, by simp, Nat.zero_le _, hideD W p, _, _, [], fun _ => 0, S2.ext e2 k2, fun _ _ h => h, ⟨.inl ⟨rfl, rfl⟩, e2 p _ ge upd_same, List.nodup_nil, fun k => by simp [tagT], fun k hk => (List.not_mem_nil hk).elim, fun k hk => (List.not_mem_nil hk).elim⟩, hs2⟩, ?_⟩
    rintro i mm σ' H' ⟨rfl, hi', W', own', s3, ks, q', S', sm, G, hσ⟩
    have sm' : Sm (hid (hideD W p) H2) H' := fun a o z => (hid_some (sm a o z)).2
    obtain ⟨w1, w2, w3⟩ := wk i H' sm'
    rw [List.length_map] at w1 w2 w3
    by_cases hil : i < (sumsF ys m).length
    · refine .inr ⟨w1 hil, fun σ2 H3 => i + 1 ≤ (sumsF ys m).length ∧ ∃ W' own' s3 ks q, Stt K w W' own' [.dat (.dct (wD us fun t => .int (wf t))), .dat (.int (m : Nat)), .no, s3, .no] σ2 H3 ∧ Sm (hid (hideD W p) H2) (hid W' H3) ∧ Grp K w.g W' own' 2 H3 p (tagT wf ((sumsF ys m).take (i + 1))) ks q ∧ σ2[2]? = some (some (.ref p)), fun σ2 H3 z => ⟨(sumsF ys m).length - (i + 1), by omega, rfl, z⟩, fun x H3 y => ?_⟩
      obtain ⟨sH, d, hd, dv0⟩ := w3 x H3 hil y
      rw [List.getElem?_map] at hd
      obtain ⟨one, ho, rfl⟩ := Option.map_eq_some_iff.mp hd
      have hone := List.mem_of_getElem? ho
      have e3 : Ext w.g H' H3 := Ext.of sH
      have k3 : OkW K w.g W' H3 := S'.ok.same sH
      have S3 := S'.ext e3 k3
      have dvx : Dv K w.g (hid W' H3) x (strsD one) := by
        refine dv0 _ (fun a o z => e3.hid S'.ok.gW a o (sm a o z)) fun b o nb z => ?_
        rw [hid_no]
        · exact z
        · cases y' : W' b with
          | false => rfl
          | true =>
            obtain ⟨o', z'⟩ := S'.ok.al b y'
            rw [nb] at z'; cases z'
      have S4 := S3.setS (i := 3) dvx
      have G4 := (G.ext S'.ok.gW (fun a h => (S'.oW 2 a h).2.2) e3).sub (own' := fun j a => j ≠ 3 ∧ own' j a) (fun a h => ⟨by decide, h⟩)
      have l5 : σ'.length = 5 := by rw [← S'.len]; rfl
      have hσ2 : (σ'.set 3 (some x))[2]? = some (some (.ref p)) := by rw [List.getElem?_set_ne (by decide)]; exact hσ
      have hσ3 : (σ'.set 3 (some x))[3]? = some (some x) := List.getElem?_set_self (by omega)
      have eT : tagT wf ((sumsF ys m).take (i + 1)) = tagT wf ((sumsF ys m).take i) ++ [(wtOf wf one, strsD one)] := by
        rw [List.take_add_one, ho]
        unfold tagT
        rw [List.map_append]
        rfl
      have lks : ks.length ≤ 56 := by
        have := G.nd.length_le_of_subset fun k hk => (G.mem k).mp hk
        rw [tag_keys, List.length_map, List.length_take] at this
        omega
      refine ⟨.ref p, hσ2, p, rfl, .inl ⟨_, Rd.of G4.hD⟩, W', _, _, S4, ⟨_, rfl, _, rfl, us, wf, one, rfl, inn _ hone, few63 _ hone, ?_⟩⟩
      intro v5 H5 e5 k5 d5
      cases d5
      refine ⟨Nat.zero_le _, fun q5 n5 => ?_⟩
      have S5 := S4.ext e5 k5
      have G5 := G4.ext S4.ok.gW (fun a h => (S4.oW 2 a h).2.2) e5
      obtain ⟨S6, gr6, sm6, ge6, h06, oN6⟩ := S5.hideO (o := .lst []) n5
      have G6 := G5.up (H' := upd H5 q5 (.lst [])) (W' := hideD W' q5) (fun a o h z => by rw [upd_ne (ne_of_none z n5)]; exact z) sm6
      have dv6 : Dv K w.g (hid (hideD W' q5) (upd H5 q5 (.lst []))) x (strsD one) := Dv.mono sm6 _ _ (Dv.mono (e5.hid S4.ok.gW) _ _ dvx)
      have smx : Sm (hid (hideD W p) H2) (hid (hideD W' q5) (upd H5 q5 (.lst []))) := fun a o z => sm6 a o (e5.hid S4.ok.gW a o (e3.hid S'.ok.gW a o (sm a o z)))
      refine ⟨_, .inl (wtOf wf one), G6.hD, rfl, by rw [List.length_map, sizeLine_eq]; omega, fun v hv => ?_, fun hn => ?_⟩
      · have hin : wtOf wf one ∈ ks := by
          refine Decidable.byContradiction fun no => ?_
          rw [valV_ngrp no] at hv
          cases hv
        rw [valV_grp hin] at hv
        cases hv
        obtain ⟨o1, o2, zs, o3, o4⟩ := G6.at_ _ hin
        refine ⟨.inl ⟨rfl, _, SqL.of o3⟩, x, hσ3, ?_⟩
        refine ⟨_, zs, x, rfl, rfl, o3, ?_, ?_⟩
        · have l4 := o4.len
          rw [tag_grp, List.length_map] at l4
          have l6 := List.length_filter_le (fun a => wtOf wf a == wtOf wf one) ((sumsF ys m).take i)
          rw [List.length_take] at l6
          rw [sizeLine_eq]
          omega
        · obtain ⟨S7, _⟩ := S6.putOwn (o := .lst (zs ++ [x])) (s := .no) o1 (.inl ⟨_, upd_same⟩) fun h => absurd rfl h
          have hW := (S6.oW 2 _ o1).1
          refine ⟨hil, hideD W' q5, _, _, ks, q', S7, fun a o z => by rw [hid_upd hW]; exact smx a o z, ?_, hσ2⟩
          rw [eT]
          exact G6.more hin hW o3 dv6
      · have hno : wtOf wf one ∉ ks := fun hin => by rw [valV_grp hin] at hn; cases hn
        have pq : q5 ≠ p := fun z => oN6 2 (z ▸ G6.oD)
        refine ⟨.inl ⟨rfl, _, SqL.of (by rw [upd_ne pq]; exact upd_same)⟩, x, hσ3, ?_⟩
        refine ⟨_, [], x, rfl, rfl, by rw [upd_ne pq]; exact upd_same, by rw [sizeLine_eq]; decide, ?_⟩
        have S7 := S6.claim 2 hideD_at h06 ge6 oN6 (.inl ⟨_, upd_same⟩) rfl
        obtain ⟨S8, _⟩ := S7.putOwn (i := 2) (a := p) (o := .dK (putK (ks.map fun k => ((Sum.inl k : Key), V.ref (q' k))) (Sum.inl (wtOf wf one)) (.ref q5))) (s := .no) (.inr G6.oD) (.inr ⟨_, upd_same⟩) fun h => absurd rfl h
        obtain ⟨S9, _⟩ := S8.putOwn (i := 2) (a := q5) (o := .lst [x]) (s := .no) (.inl ⟨rfl, rfl⟩) (.inl ⟨_, upd_same⟩) fun h => absurd rfl h
        have hWp := (S6.oW 2 _ G6.oD).1
        refine ⟨hil, hideD W' q5, _, _, ks ++ [wtOf wf one], fun k => if k = wtOf wf one then q5 else q' k, S9, fun a o z => by rw [hid_upd hideD_at, hid_upd hWp]; exact smx a o z, ?_, hσ2⟩
        rw [eT]
        exact (G6.sub fun a h => .inr h).first hno (.inl ⟨rfl, rfl⟩) pq (fun k hk z => oN6 2 (z ▸ (G6.at_ k hk).1)) hWp hideD_at dv6
    · have ei : (sumsF ys m).take i = sumsF ys m := List.take_of_length_le (by omega)
      rw [ei] at G
      refine .inl ⟨w2 (by omega), ?_⟩
      refine ⟨⟨H', none, oldM w⟩, oldM w, _, _, grp_end S' wok (tag_noL wf _) G hσ, ?_⟩
      have l5 : σ'.length = 5 := by rw [← S'.len]; rfl
      rw [l5]
      have lks : ks.length ≤ 56 := by
        have := G.nd.length_le_of_subset fun k hk => (G.mem k).mp hk
        rw [tag_keys, List.length_map] at this
        omega
      refine ⟨_, rfl, grpD (tagT wf (sumsF ys m)) ks, ks, rfl, grp_keys _ _, by omega, fun ns pn pw => ?_⟩
      refine ⟨_, rfl, ?_⟩
      have memn : ∀ k, k ∈ ns ↔ k ∈ (sumsF ys m).map (wtOf wf) := fun k => by rw [← tag_keys, ← G.mem k]; exact pn.mem_iff
      have N : Nums wf (sumsF ys m) ns := ⟨((pw.and (pn.nodup_iff.mpr G.nd)).imp fun {a b} ⟨h1, h2⟩ => by omega), memn⟩
      refine lcK_run (gF (tagT wf (sumsF ys m))) _ [] (by rw [List.length_map, pn.length_eq, sizeLine_eq]; show 0 + _ ≤ _; omega) (fun d hd Y Z hY hZ => ?_) ?_
      · obtain ⟨n, hn, rfl⟩ := List.mem_map.mp hd
        exact ⟨_, rfl, _, rfl, _, .inl n, _, rfl, rfl, valD_grp (pn.mem_iff.mp hn), hY _ rfl⟩
      · rw [gF_map]
        rw [List.nil_append]
        refine grp_ret S' (fun l hl => ?_) ?_
        · obtain ⟨n, _, rfl⟩ := List.mem_map.mp hl
          exact noLs_filter (tag_noL wf _) _
        · have e2 : (ns.map fun n => ((tagT wf (sumsF ys m)).filter fun p => p.1 == n).map (·.2)).map Da.lst = clsD wf (sumsF ys m) ns := by
            unfold clsD clsL
            rw [List.map_map, List.map_map]
            refine List.map_congr_left fun n _ => ?_
            exact congrArg Da.lst (tag_grp wf _ n)
          rw [e2]
          exact q ns N
end
end K37
namespace K37
open PySem PySem.Spec PyProof.Rows L2 Pd
theorem ite_rest {c b : Bool} {M : (Da → Prop) → Prop} {R : Da → Prop} (hM : ∀ R' : Da → Prop, R' (.bl b) → M R') (h : R (.bl (c && b))) : if c = true then M R else R (.bl false) := by
  cases c
  · exact (if_neg Bool.false_ne_true).mpr h
  · exact (if_pos rfl).mpr (hM R h)
section
variable {C : Addr} {P : Program} {wd : World} {K : PySem.W.Frag} {mg : Str → Option Value} {base : Heap}
abbrev N_bag : List Str := ["_law_script", "_law_cell"]
theorem sc_bag : FnScope N_bag ["_law_script"] (defScope s_bag) := ⟨rfl, rfl, rfl, by decide +kernel, rfl, by decide +kernel, by decide +kernel⟩
abbrev sp_law : Stmt := topS 50
abbrev Np_law : List Str := ["_law_script", "_law_bag_here", "_law_turn", "_law_things_here", "_law_worths_here", "_law_every", "_law_told", "_law_k", "_law_some", "_law_pair_here", "_law_together", "_law_names", "_law_later", "_law_back", "_law_part", "_law_name"]
theorem scp_law : FnScope Np_law ["_law_script"] (defScope sp_law) := ⟨rfl, rfl, rfl, by decide +kernel, rfl, by decide +kernel, by decide +kernel⟩

theorem ok_bag {f : Addr} {fd : FuncData} (F : Fun K "_law_bag" "_law_bag" s_bag f fd) (ma : mg "abs" = none) : FnG P wd K mg base CX0 1 f fd ["_law_script"] (spBag K) := by
  refine FunG.ok F sc_bag ?_ ?_
  · rintro vs H Q E ⟨a, ns, rfl, _⟩
    rfl
  · rintro cdv A outer s0 H vs Q E hr hG pre
    exact ⟨_, pss_one (ps_ret (pe_lst (pa_cons pe_int (pa_cons pe_int (pa_cons pe_int (pa_cons
      (pe_lc (own := [("_law_cell", 1)]) (g := gName 1) (tt := tYes) rfl sc_bag.nd (pi_list (pe_slice sl_list (pv 0) po_none (po_some pe_int))) (blkOk_by (own := [("_law_cell", 1)]) (N := N_bag) (sc := defScope s_bag) (by decide +kernel))
        (fun _ _ _ _ _ => pg_name (i := 1) sc_bag.nd rfl (Or.inl rfl)) (fun _ _ _ _ _ => pts_nil) (fun _ _ _ _ _ => pe_callB call_abs (by rfl) ma (by decide +kernel) (pa_cons (pv 1) pa_nil)))
      pa_nil)))))), bag_read K vs H Q E pre _ rfl⟩
end
end K37
/-! set(xs) of things that are all unlike, told apart by their parts (tuples of texts): how many there are. -/
namespace Hs
open PySem PySem.Spec PyProof.Rows L2
section
variable {K : Type} [DecidableEq K] {P : Program} {w : World}
/-- what such things must bring besides -/
structure Fit (kd : HeapKind P w K) : Prop where
  stay : ∀ {h h' : Heap} {k : K} {b : Addr}, (∀ c o vs n, h.get? c = some o → o.data = .seq vs n → h'.get? c = some o) → kd.is h k b → kd.is h' k b
  cls : ∀ {A : Around} {E : Value → Shared → Prop} {s : Shared} {k : K} {b : Addr} {Q : Bool → Shared → Prop}, kd.is s.heap k b → Q false s → wpAny (model P w) A (ofAClassStatement 8 (.ref b)) Q E s
  byv : ∀ {A : Around} {E : Value → Shared → Prop} {s : Shared} {k : K} {b : Addr} {Q : Bool → Shared → Prop}, kd.is s.heap k b → (∀ y, Q y s) → wpAny (model P w) A (hashByValue 8 (.ref b)) Q E s
variable {kd : HeapKind P w K}
abbrev ent (kd : HeapKind P w K) (p : Addr × K) : Int × Value := (kd.hash p.2, .ref p.1)
/-- the set at a holds the things L, and no others -/
structure Box (kd : HeapKind P w K) (h : Heap) (a : Addr) (L : List (Addr × K)) (es : Array (Int × Value)) (ep : Nat) (t : SetTable) : Prop where
  obj : ∃ o, h.get? a = some o ∧ o.ExactSet ∧ o.data = .set es ep t
  all : es.toList = L.map (ent kd)
  tab : TabOk t (L.map fun p => kd.hash p.2)
  its : ∀ p ∈ L, kd.is h p.2 p.1
  ld : w.params.followText "set-order" = true ∨ t.led = true
  air : L.length * 5 < t.mask * 3
  le : L.length < 64
variable {A : Around} {E : Value → Shared → Prop} {s : Shared} {a : Addr} {L : List (Addr × K)} {es : Array (Int × Value)} {ep : Nat} {t : SetTable}
theorem ents_len (h : es.toList = L.map (ent kd)) : es.size = L.length := by
  rw [← Array.length_toList, h, List.length_map]
theorem fits_of (T : TabOk t (L.map fun p => kd.hash p.2)) (n : es.size = L.length) (m : L.length ≤ t.mask) : t.fits es.size = true := by
  have z := T.sz
  rw [List.length_map] at z
  unfold SetTable.fits SetTable.fill
  rw [T.dm, Bool.and_eq_true, beq_iff_eq, decide_eq_true_eq]
  exact ⟨z.trans n.symm, by show t.place.size + 0 ≤ t.mask; omega⟩
theorem Box.fit (B : Box kd s.heap a L es ep t) : t.fits es.size = true := fits_of B.tab (ents_len B.all) (by have := B.air; omega)
theorem Box.get (B : Box kd s.heap a L es ep t) {i : Nat} {p : Addr × K} (h : L[i]? = some p) : es[i]? = some (ent kd p) := by
  rw [← Array.getElem?_toList, B.all, List.getElem?_map, h]
  rfl
/-- no search shows anything -/
theorem unseen (F : Fit kd) {k : K} {b : Addr} (hk : kd.is s.heap k b) {ys : List Value} (hy : ∀ y ∈ ys, ∃ p : Addr × K, y = .ref p.1 ∧ kd.is s.heap p.2 p.1) {Q : Bool → Shared → Prop} (q : Q false s) :
    wpAny (model P w) A (searchCouldBeSeen (.ref b) ys) Q E s := by
  unfold searchCouldBeSeen
  apply wpAny_bind
  refine wpAny_forIn_list _ (fun left r s1 => s1 = s ∧ r.1 = none ∧ ∀ y ∈ left, ∃ p : Addr × K, y = .ref p.1 ∧ kd.is s.heap p.2 p.1) _ ?_ ?_ _ _ ⟨rfl, rfl, hy⟩
  · rintro y left r s1 ⟨rfl, hr, hs⟩
    obtain ⟨⟨c, k2⟩, rfl, hc⟩ := hs y List.mem_cons_self
    have next := fun u (hu : u ∈ left) => hs u (List.mem_cons_of_mem _ hu)
    dsimp only
    by_cases z : (b == c || (carriedByValue (.ref b) && carriedByValue (.ref c))) = true
    · exact wp_if_pos z (wpAny_pure ⟨rfl, rfl, next⟩)
    · refine wp_if_neg z (wpAny_bind (kd.quiet hk ?_))
      simp only [Bool.not_true, Bool.false_eq_true, if_false]
      apply wpAny_bind
      refine kd.quiet hc ?_
      simp only [Bool.not_true, Bool.false_eq_true, if_false]
      apply wpAny_bind
      refine F.cls hk ?_
      simp only [Bool.false_eq_true, if_false]
      apply wpAny_bind
      refine F.cls hc ?_
      simp only [Bool.false_eq_true, if_false]
      exact wpAny_pure ⟨rfl, rfl, next⟩
  · rintro ⟨r1, r2⟩ s1 ⟨rfl, hr, _⟩
    cases hr
    exact wpAny_pure q
abbrev beg (m : Nat) (h : Int) : SetTable.Probe := runAt m (SetTable.bits h % (m + 1)) (SetTable.bits h)
theorem no_dummy (m : Nat) : ∀ (n : Nat) (p : SetTable.Probe), p.dummy = none → (nth m p n).dummy = none
  | 0, _, h => h
  | n + 1, p, h => no_dummy m n (adv m p) (by
    unfold adv
    split
    · exact h
    · exact h)
/-- the search for what is not there ends at the first empty slot -/
theorem look (F : Fit kd) (B : Box kd s.heap a L es ep t) {x : Addr} {k : K} (hx : kd.is s.heap k x) (ro : kd.room A) (no : k ∉ L.map (·.2)) {J : Nat} (bd : J < 10 * SetTable.turns t.mask)
    (free : way t.mask (kd.hash k) J ∉ t.place.toList) (full : ∀ c, c < J → way t.mask (kd.hash k) c ∈ t.place.toList) {Q : SetFound → Shared → Prop} (q : Q (.free (way t.mask (kd.hash k) J) false) s) :
    ∀ (f c : Nat) (st : Option SetTable.Probe), st.getD (t.probeStart (kd.hash k)) = nth t.mask (beg t.mask (kd.hash k)) c → c ≤ J → J - c < f →
      wpAny (model P w) A (setSearchFrom a (.ref x) (kd.hash k) true f st) Q E s
  | 0, c, _, _, _, lt => absurd lt (Nat.not_lt_zero _)
  | f + 1, c, st, at_c, le, lt => by
    obtain ⟨o, ho, ex, hd⟩ := B.obj
    have gave : ¬ t.gaveWay = true := by
      unfold SetTable.gaveWay
      rw [mask_odd B.tab.mok]
      decide
    have jat : ∀ r, (nth t.mask (nth t.mask (beg t.mask (kd.hash k)) c) r).j = way t.mask (kd.hash k) (c + r) := fun r => by rw [← nth_add]
    have last : c + (J - c) = J := by omega
    have sp := go_spec t B.tab.ris B.tab.dm (fun i => (es[i]?.map (·.1)).getD 0) (kd.hash k) (10 * SetTable.turns t.mask) (J - c) _ (no_dummy t.mask c _ rfl) (Nat.lt_of_le_of_lt (Nat.sub_le _ _) bd)
      (fun r hr => by rw [jat]; exact full _ (by omega)) (by rw [jat, last]; exact free)
    rw [setSearchFrom_succ]
    apply wpAny_bind
    refine wpAny_setState_of ho hd B.fit ?_
    dsimp only
    refine wp_if_neg gave ?_
    try refine wpAny_bind (wpAny_pure ?_)
    rw [at_c]
    rcases sp with ⟨r, i, hr, hi, hh, _, found⟩ | ⟨_, found⟩
    · -- one with this hash: it is another
      rw [show t.probe (fun i => (es[i]?.map (·.1)).getD 0) (kd.hash k) (nth t.mask (beg t.mask (kd.hash k)) c) = _ from found]
      dsimp only
      rw [jat] at hi ⊢
      have hiL : i < L.length := by
        have z1 := (List.getElem?_eq_some_iff.mp hi).1
        have z2 := B.tab.sz
        rw [List.length_map] at z2
        rw [Array.length_toList] at z1
        omega
      obtain ⟨p, hp⟩ : ∃ p, L[i]? = some p := ⟨_, List.getElem?_eq_getElem hiL⟩
      have mp := List.mem_of_getElem? hp
      have isp := B.its p mp
      have ne : p.2 ≠ k := fun e => no (e ▸ List.mem_map_of_mem mp)
      have go : wpAny (model P w) A (searchRest a (.ref x) (kd.hash k) true f es t (way t.mask (kd.hash k) (c + r)) i (nth t.mask (nth t.mask (beg t.mask (kd.hash k)) c) (r + 1))) Q E s := by
        unfold searchRest
        rw [B.get hp]
        dsimp only
        refine wpAny_bind (wpAny_holding (kd.eqBool ro isp hx ?_))
        apply wpAny_bind
        refine wpAny_setState_of ho hd B.fit ?_
        rw [decide_eq_false ne]
        dsimp only
        refine wp_if_neg (by simp) ?_
        try refine wpAny_bind (wpAny_pure ?_)
        rw [sameMem]
        dsimp only
        have live : t.slot (way t.mask (kd.hash k) (c + r)) = .live i := slot_live B.tab.ris hi
        simp only [if_true, live, B.get hp]
        refine wpAny_bind (wpAny_isSame_ref_self (wpAny_bind (wpAny_pure ?_)))
        simp only [if_true]
        refine wp_if_neg (by simp) ?_
        refine look F B hx ro no bd free full q f (c + (r + 1)) _ ?_ (by omega) (by omega)
        exact (nth_add _ _ _ _).symm
      by_cases l : t.led = true
      · refine wp_if_neg (by simp [l]) ?_
        try refine wpAny_bind (wpAny_pure ?_)
        exact go
      · refine wp_if_pos (by simp [l]) ?_
        apply wpAny_bind
        refine unseen F hx (fun y hy => ?_) ?_
        · obtain ⟨e, he, rfl⟩ := List.mem_map.mp hy
          have m1 : e ∈ es.toList := by
            have z : e ∈ es ∧ e.1 = kd.hash k := by simpa using he
            simpa using z.1
          rw [B.all] at m1
          obtain ⟨p2, hp2, rfl⟩ := List.mem_map.mp m1
          exact ⟨p2, rfl, B.its p2 hp2⟩
        · refine wp_if_neg (by decide) ?_
          try refine wpAny_bind (wpAny_pure ?_)
          exact go
    · -- the empty slot
      rw [show t.probe (fun i => (es[i]?.map (·.1)).getD 0) (kd.hash k) (nth t.mask (beg t.mask (kd.hash k)) c) = _ from found]
      dsimp only
      rw [jat, last]
      exact wpAny_pure q
end
end Hs
namespace Hs
open PySem PySem.Spec PyProof.Rows L2
section
variable {K : Type} [DecidableEq K] {P : Program} {w : World} {kd : HeapKind P w K}
variable {A : Around} {E : Value → Shared → Prop} {s : Shared} {a : Addr} {L : List (Addr × K)} {es : Array (Int × Value)} {ep : Nat} {t : SetTable}
/-- the set's change leaves the things as they were -/
theorem is_still (F : Fit kd) {h h' : Heap} {o : Obj} {k : K} {b : Addr} (x : kd.is h k b) (ho : h.get? a = some o) (hd : o.data = .set es ep t) (sb : Heap.SameBut a h h') : kd.is h' k b :=
  F.stay (fun c oc vs n hc hv => (sb.2 c (fun e => by
    rw [e, ho] at hc
    cases hc
    rw [hd] at hv
    cases hv)).trans hc) x
theorem pick (l : List (Addr × K)) : ∀ (js : List Nat), (∀ j ∈ js, j < l.length) → ∃ L2 : List (Addr × K), L2 = js.filterMap (fun j => l[j]?) ∧ L2.length = js.length ∧ ∀ i : Nat, L2[i]? = (js[i]?).bind fun (j : Nat) => l[j]?
  | [], _ => ⟨[], rfl, rfl, fun i => rfl⟩
  | j :: js, h => by
    obtain ⟨L2, e, n, z⟩ := pick l js fun i hi => h i (List.mem_cons_of_mem _ hi)
    have hj := List.getElem?_eq_getElem (h j List.mem_cons_self)
    refine ⟨l[j]'(h j List.mem_cons_self) :: L2, by rw [List.filterMap_cons_some hj, ← e], by rw [List.length_cons, List.length_cons, n], fun i => ?_⟩
    cases i with
    | zero => exact hj.symm
    | succ i => simpa using z i
theorem range_pick (l : List (Addr × K)) : ∀ n, n ≤ l.length → (List.range n).filterMap (fun j => l[j]?) = l.take n
  | 0, _ => rfl
  | n + 1, h => by
    rw [List.range_succ, List.filterMap_append, range_pick l n (by omega), List.take_add_one, List.getElem?_eq_getElem (show n < l.length from h), List.filterMap_cons_some (List.getElem?_eq_getElem (show n < l.length from h))]
    rfl
/-- the rows in another order -/
theorem turned (hr : es.toList = L.map (ent kd)) {od : Array Nat} (pm : od.toList.Perm (List.range L.length)) :
    ∃ L2 : List (Addr × K), L2.Perm L ∧ (od.filterMap (es[·]?)).toList = L2.map (ent kd) ∧ (L2.map fun p => kd.hash p.2) = od.toList.map fun i => (es.map (·.1)).getD i 0 := by
  have below : ∀ j ∈ od.toList, j < L.length := fun j hj => List.mem_range.mp (pm.mem_iff.mp hj)
  obtain ⟨L2, e, n, z⟩ := pick L od.toList below
  have ge : ∀ j, es[j]? = L[j]?.map (ent kd) := fun j => by rw [← Array.getElem?_toList, hr, List.getElem?_map]
  refine ⟨L2, ?_, ?_, ?_⟩
  · have z2 := pm.filterMap (fun j => L[j]?)
    rw [← e, range_pick L _ (Nat.le_refl _), List.take_length] at z2
    exact z2
  · have e3 : ∀ js : List Nat, js.filterMap (fun j => es[j]?) = (js.filterMap fun j => L[j]?).map (ent kd) := fun js => by
      rw [List.map_filterMap]
      exact congrArg (fun g => List.filterMap g js) (funext ge)
    rw [e, ← e3]
    first | exact Array.toList_filterMap .. | simp
  · refine List.ext_getElem? fun i => ?_
    rw [List.getElem?_map, List.getElem?_map, z]
    cases y : od.toList[i]? with
    | none => rfl
    | some j =>
      have hj := below j (List.mem_of_getElem? y)
      have q : (es.map (·.1))[j]? = some (kd.hash (L[j]).2) := by rw [Array.getElem?_map, ge, List.getElem?_eq_getElem hj]; rfl
      have q2 : (es.map (·.1)).getD j 0 = kd.hash (L[j]).2 := by rw [Array.getD_eq_getD_getElem?, q]; rfl
      show Option.map _ (L[j]?) = some ((es.map (·.1)).getD j 0)
      rw [q2, List.getElem?_eq_getElem hj]
      rfl
/-- all laid anew in a larger table -/
theorem wider (F : Fit kd) {o : Obj} (ho : s.heap.get? a = some o) (ex : o.ExactSet) (hd : o.data = .set es ep t) (hr : es.toList = L.map (ent kd)) (T : TabOk t (L.map fun p => kd.hash p.2)) (its : ∀ p ∈ L, kd.is s.heap p.2 p.1)
    (ld : w.params.followText "set-order" = true ∨ t.led = true) (le : L.length < 64) (fl : L.length ≤ t.mask) {n M : Nat} (hM : SetTable.sizeAbove n = M + 1) (mk : MaskOk M) (ai : L.length * 5 < M * 3) {Q : Unit → Shared → Prop}
    (q : ∀ h' L' es' ep' t', Heap.SameBut a s.heap h' → Box kd h' a L' es' ep' t' → L'.Perm L → Q () { s with heap := h' }) : wpAny (model P w) A (setRelay a n) Q E s := by
  have sz := ents_len hr
  have hM2 : SetTable.sizeAbove n - 1 = M := by rw [hM]; rfl
  have M127 : M ≤ 127 := by rcases mk with e | e | e <;> omega
  obtain ⟨t', od, lay, pm, T', em, el, _, _⟩ := relaid_ok t (hs := es.map (·.1)) hM2 mk (by rw [Array.size_map]; omega)
  rw [Array.size_map, sz] at pm
  obtain ⟨L2, p2, r2, h2⟩ := turned hr pm
  rw [← h2] at T'
  have sz2 := ents_len r2
  rw [p2.length_eq] at sz2
  rw [setRelay_eq]
  apply wpAny_bind
  refine wpAny_setState_of ho hd (fits_of T sz fl) ?_
  dsimp only
  refine wp_if_neg (by rw [sizeLine_eq, hM]; omega) ?_
  try refine wpAny_bind (wpAny_pure ?_)
  rw [lay]
  dsimp only
  apply wpAny_bind
  refine wp_if_neg (by rw [sz2, sz]; simp) ?_
  try refine wpAny_bind (wpAny_pure ?_)
  apply wpAny_pure
  have sb : Heap.SameBut a s.heap (s.heap.update a (Obj.putSet (od.filterMap (es[·]?)) t')) := Heap.SameBut.update ..
  refine wpAny_storeSet_of ho hd (q _ L2 _ (ep + 1) t' sb ⟨⟨_, store_at ho hd, ⟨ex.1, ex.2.1, ex.2.2⟩, rfl⟩, r2, T', fun p hp => is_still F (its p (p2.mem_iff.mp hp)) ho hd sb, by rw [el]; exact ld, ?_, ?_⟩ p2) (by rw [sz2, sizeLine_eq]; omega)
  · rw [p2.length_eq, em]
    exact ai
  · rw [p2.length_eq]
    exact le
theorem full_at {m n : Nat} (mk : MaskOk m) (le : n + 1 < 64) (ai : n * 5 < m * 3) (fu : (n + 1) * 5 ≥ m * 3) : ∃ M, SetTable.sizeAbove (SetTable.grown (n + 1)) = M + 1 ∧ MaskOk M ∧ (n + 1) * 5 < M * 3 ∧ n + 1 ≤ m := by
  rcases mk with e | e | e
  · have e2 : n = 4 := by omega
    subst e2
    exact ⟨31, size_20, .inr (.inl rfl), by decide, by omega⟩
  · have e2 : n = 18 := by omega
    subst e2
    exact ⟨127, size_76, .inr (.inr rfl), by decide, by omega⟩
  · omega
/-- one more -/
theorem add (F : Fit kd) (B : Box kd s.heap a L es ep t) {x : Addr} {k : K} (hx : kd.is s.heap k x) (ro : kd.room A) (no : k ∉ L.map (·.2)) (le : L.length + 1 < 64) {Q : Bool → Shared → Prop}
    (q : ∀ h' L' es' ep' t', Heap.SameBut a s.heap h' → Box kd h' a L' es' ep' t' → L'.Perm ((x, k) :: L) → Q true { s with heap := h' }) : wpAny (model P w) A (setAddHashed a (.ref x) (kd.hash k)) Q E s := by
  obtain ⟨o, ho, ex, hd⟩ := B.obj
  have sz := ents_len B.all
  have ai := B.air
  obtain ⟨J, bd, free, full⟩ := B.tab.first (by rw [List.length_map]; omega) (kd.hash k)
  have small : J < 100000 := by
    have z : 10 * SetTable.turns t.mask ≤ 1420 := by
      unfold SetTable.turns
      rcases B.tab.mok with e | e | e <;> omega
    omega
  unfold setAddHashed
  apply wpAny_holding
  rw [show (100000 : Nat) = 99999 + 1 from rfl, setAddHashedIn_succ]
  apply wpAny_bind
  refine wpAny_setState_of ho hd B.fit ?_
  dsimp only
  refine wp_if_neg (by simp [byScan, Value.scannable]) ?_
  try refine wpAny_bind (wpAny_pure ?_)
  apply wpAny_bind
  unfold setSearch
  refine look F B hx ro no bd free full ?_ 100000 0 none rfl (Nat.zero_le _) (by omega)
  dsimp only
  apply wpAny_bind
  refine wpAny_setState_of ho hd B.fit ?_
  dsimp only
  obtain ⟨u1, u2, u3, u4, u5, _, _, _, u9⟩ := B.tab.put free full
  generalize t.put (way t.mask (kd.hash k) J) = tp at u1 u3 u4 u5 u9 ⊢
  obtain ⟨t1, i⟩ := tp
  dsimp only at u1 u3 u4 u5 u9 ⊢
  rw [← u1] at u2 u3
  suffices tail : ∀ t2 : SetTable, t2.mask = t1.mask → t2.led = t1.led → t2.place = t1.place → t2.dummies = t1.dummies → wpAny (model P w) A (do
      storeSet a (SetTable.insertAt es i (kd.hash k, Value.ref x)) t2
      if !false && t2.tooFull then setRelay a (SetTable.grown (es.size + 1))
      return true) Q E s by
    by_cases u6 : t1.plain = true
    · first
        | (apply wpAny_bind; refine wp_if_pos u6 ?_; refine F.byv hx fun y => ?_)
        | refine wp_if_pos u6 (wpAny_bind (F.byv hx fun y => ?_))
      cases y
      · exact tail _ rfl rfl rfl rfl
      · exact tail _ rfl rfl rfl rfl
    · first
        | (apply wpAny_bind; refine wp_if_neg u6 ?_; apply wpAny_pure)
        | refine wp_if_neg u6 (wpAny_bind (wpAny_pure ?_))
      exact tail _ rfl rfl rfl rfl
  intro t2 v4 v5 vp vd
  obtain ⟨L1, eL⟩ : ∃ L1, L1 = L.take i ++ (x, k) :: L.drop i := ⟨_, rfl⟩
  have pm : L1.Perm ((x, k) :: L) := by rw [eL]; exact put_perm L i (x, k)
  have r1 : (SetTable.insertAt es i (kd.hash k, Value.ref x)).toList = L1.map (ent kd) := by
    rw [SetTable.toList_insertAt, B.all, eL, List.map_append, List.map_cons, List.map_take, List.map_drop]
  have T0 : TabOk t1 (L1.map fun p => kd.hash p.2) := by
    rw [eL, List.map_append, List.map_cons, List.map_take, List.map_drop]
    exact u3
  have T1 : TabOk t2 (L1.map fun p => kd.hash p.2) := by
    obtain ⟨c1, c2, c3, c4, c5, c6⟩ := T0
    rw [← vp] at c1 c3 c5 c6
    rw [← v4] at c4 c5 c6
    rw [← vd] at c2
    exact ⟨c1, c2, c3, c4, c5, c6⟩
  have u9' : t2.fill = (L.map fun p => kd.hash p.2).length + 1 := by
    rw [← u9]
    unfold SetTable.fill
    rw [vp, vd]
  have u4' := v4.trans u4
  have u5' := v5.trans u5
  clear u9 u4 u5 T0 u3
  have n1 : L1.length = L.length + 1 := pm.length_eq
  have sz1 := ents_len r1
  generalize SetTable.insertAt es i (kd.hash k, Value.ref x) = es1 at r1 sz1 ⊢
  apply wpAny_bind
  refine wpAny_storeSet_of ho hd ?_ (by rw [sz1, n1, sizeLine_eq]; omega)
  have sb : Heap.SameBut a s.heap (s.heap.update a (Obj.putSet es1 t2)) := Heap.SameBut.update ..
  have ho1 := store_at (es' := es1) (t' := t2) ho hd
  generalize s.heap.update a (Obj.putSet es1 t2) = h1 at sb ho1 ⊢
  have its1 : ∀ p ∈ L1, kd.is h1 p.2 p.1 := fun p hp => by
    rcases List.mem_cons.mp (pm.mem_iff.mp hp) with e | m
    · subst e
      exact is_still F hx ho hd sb
    · exact is_still F (B.its p m) ho hd sb
  have ld1 : w.params.followText "set-order" = true ∨ t2.led = true := by rw [u5']; exact B.ld
  have fill : t2.fill = L.length + 1 := by rw [u9', List.length_map]
  by_cases fu : t2.tooFull = true
  · have fu2 : (L.length + 1) * 5 ≥ t.mask * 3 := by
      have z := fu
      unfold SetTable.tooFull at z
      rw [decide_eq_true_eq, fill, u4'] at z
      exact z
    obtain ⟨M, m1, m2, m3, m4⟩ := full_at B.tab.mok le ai fu2
    first
      | (apply wpAny_bind; refine wp_if_pos (by simp [fu]) ?_)
      | (refine wp_if_pos (by simp [fu]) ?_; apply wpAny_bind)
    rw [sz]
    refine wider F (s := { s with heap := h1 }) ho1 ⟨ex.1, ex.2.1, ex.2.2⟩ rfl r1 T1 its1 ld1 (by rw [n1]; exact le) (by rw [n1, u4']; exact m4) m1 m2 (by rw [n1]; exact m3) fun h2 L2 es2 ep2 t2 sb2 B2 p2 => ?_
    exact wpAny_pure (q h2 L2 es2 ep2 t2 (sb.trans sb2) B2 (p2.trans pm))
  · first
      | refine wp_if_neg (by simp [fu]) ?_
      | (apply wpAny_bind; refine wp_if_neg (by simp [fu]) ?_; apply wpAny_pure)
    refine wpAny_pure (q h1 L1 es1 (ep + 1) t2 sb ⟨⟨_, ho1, ⟨ex.1, ex.2.1, ex.2.2⟩, rfl⟩, r1, T1, its1, ld1, ?_, by rw [n1]; exact le⟩ pm)
    have z := fu
    unfold SetTable.tooFull at z
    rw [decide_eq_true_eq, fill] at z
    rw [n1]
    omega
end
end Hs
namespace Hs
open PySem PySem.Spec PyProof.Rows L2
section
variable {K : Type} [DecidableEq K] {P : Program} {w : World} {kd : HeapKind P w K}
variable {A : Around} {E : Value → Shared → Prop} {s : Shared} {L : List (Addr × K)}
/-- so far: the first i of ks -/
def Upto (kd : HeapKind P w K) (h : Heap) (b : Addr) (ks : List (Addr × K)) (i : Nat) : Prop := ∃ L es ep t, Box kd h b L es ep t ∧ L.Perm (ks.take i)
theorem Upto.go (Fi : Fit kd) {h h0 h' : Heap} {b : Addr} {ks : List (Addr × K)} {i : Nat} (U : Upto kd h b ks i) (at0 : ∀ p ∈ ks, kd.is h0 p.2 p.1) (hb : ∀ o, h.get? b = some o → h'.get? b = some o) (k0 : ∀ c o, h0.get? c = some o → h'.get? c = some o) : Upto kd h' b ks i := by
  obtain ⟨L, es, ep, t, B, pm⟩ := U
  obtain ⟨o, ho, r⟩ := B.obj
  exact ⟨L, es, ep, t, ⟨⟨o, hb o ho, r⟩, B.all, B.tab, fun p hp => Fi.stay (fun c o _ _ z _ => k0 c o z) (at0 p (List.mem_of_mem_take (pm.mem_iff.mp hp))), B.ld, B.air, B.le⟩, pm⟩
theorem fill (Fi : Fit kd) {I : Addr} {fp wr : List Addr} {G : Array GenState → Array GenState → Prop} {n : Nat} {Pv : Nat → Value → Prop} {St : Nat → Shared → Prop} {R : Result → Shared → Prop} (W : WalksS P w A.in1 I fp wr G n Pv St) {b : Addr} (out : b ∉ fp)
    (ks : List (Addr × K)) (hn : n = ks.length) (room : ks.length < 64) (nd : (ks.map (·.2)).Nodup) (item : ∀ i v, Pv i v → ∃ p, ks[i]? = some p ∧ v = .ref p.1) {h0 : Heap} (at0 : ∀ p ∈ ks, kd.is h0 p.2 p.1) (b0 : h0.get? b = none) (wr0 : ∀ c ∈ wr, h0.get? c = none) (ro : kd.room A.in1) :
    ∀ (m i : Nat) (s : Shared), n - i = m → i ≤ n → St i s → (∀ c o, h0.get? c = some o → s.heap.get? c = some o) → Upto kd s.heap b ks i → (∀ s2, Moved (b :: wr) G s s2 → (∀ c o, h0.get? c = some o → s2.heap.get? c = some o) → Upto kd s2.heap b ks n → R (.ok (.ret .none)) s2) →
      codeAny (model P w) A (.builtin "set.update.loop" ⟨[.ref b, .ref I], []⟩) R s := by
  have bw : b ∉ wr := fun z => out (W.sub _ z)
  have more : ∀ c ∈ wr, c ∈ b :: wr := fun c z => List.mem_cons_of_mem _ z
  have kept : ∀ {s s2 : Shared}, Moved wr G s s2 → (∀ c o, h0.get? c = some o → s.heap.get? c = some o) → ∀ c o, h0.get? c = some o → s2.heap.get? c = some o := fun mv k0 c o z => mv.heap c o (fun y => by rw [wr0 c y] at z; cases z) (k0 c o z)
  intro m
  induction m with
  | zero =>
    intro i s hm hi st k0 U fin
    obtain rfl : i = n := by omega
    apply codeAny_builtin F.entry_set_update_loop
    rw [Around.under_plainId F.plain_set_update_loop _]
    show wpAny _ A.in1 (pyNext (.ref I) >>= _) _ _ s
    apply wpAny_bind
    refine W.done s _ _ st fun s2 mv => ?_
    show wpAny _ A.in1 (ret Value.none) _ _ s2
    exact wpAny_pure (fin s2 (mv.mono more) (kept mv k0) (U.go Fi at0 (fun o e => mv.heap b o bw e) (kept mv k0)))
  | succ m ih =>
    intro i s hm hi st k0 U fin
    have lt : i < n := by omega
    apply codeAny_builtin F.entry_set_update_loop
    rw [Around.under_plainId F.plain_set_update_loop _]
    show wpAny _ A.in1 (pyNext (.ref I) >>= _) _ _ s
    apply wpAny_bind
    refine W.item i s _ _ lt st fun v s2 pv st2 mv => ?_
    obtain ⟨⟨x, k⟩, hk, rfl⟩ := item i v pv
    have k2 := kept mv k0
    obtain ⟨L, es, ep, t, B, pm⟩ := U.go Fi at0 (fun o e => mv.heap b o bw e) k2
    have len : L.length = i := by rw [pm.length_eq, List.length_take]; omega
    have hx : kd.is s2.heap k x := Fi.stay (fun c o _ _ z _ => k2 c o z) (at0 _ (List.mem_of_getElem? hk))
    have tk : ks.take (i + 1) = ks.take i ++ [(x, k)] := by rw [List.take_add_one, hk]; rfl
    have no : k ∉ L.map (·.2) := fun z => by
      have z2 := (pm.map (·.2)).mem_iff.mp z
      have nd2 : ((ks.take (i + 1)).map (·.2)).Nodup := nd.sublist ((List.take_sublist _ _).map _)
      rw [tk, List.map_append] at nd2
      exact (List.nodup_append.mp nd2).2.2 k z2 k (by simp) rfl
    show wpAny _ A.in1 (holding [Value.ref x] (setAdd b (.ref x)) >>= _) _ _ s2
    apply wpAny_bind
    apply wpAny_holding
    unfold setAdd
    apply wpAny_holding
    apply wpAny_bind
    refine kd.pyHash ro hx ?_
    refine add Fi (s := { s2 with toks := s2.toks + kd.draws k }) B hx ro no (by omega) fun h2 L' es' ep' t' sb B2 pm2 => ?_
    have k3 : ∀ c o, h0.get? c = some o → h2.get? c = some o := fun c o z => (sb.2 c (fun y => by rw [y, b0] at z; cases z)).trans (k2 c o z)
    have U2 : Upto kd h2 b ks (i + 1) := ⟨L', es', ep', t', B2, by
      rw [tk]
      exact pm2.trans ((List.Perm.cons _ pm).trans (List.perm_append_comm (l₁ := [(x, k)])))⟩
    refine wpAny_pure ⟨plainId_quiet F.plain_set_update_loop _, ih (i + 1) _ (by omega) lt (W.frame _ s2 _ _ st2 (Nat.le_add_right _ _) fun c hc o e => ?_) k3 U2 fun s3 mv3 k4 U3 => ?_⟩
    · rw [sb.2 c (fun z : c = b => out (by rw [← z]; exact hc))]
      exact e
    · refine fin s3 (Moved.trans W.gtrans ((mv.mono more).then_heap (Nat.le_add_right _ _) fun c o hc e => ?_) mv3) k4 U3
      rw [sb.2 c (fun z : c = b => hc (by rw [z]; exact List.mem_cons_self))]
      exact e
theorem fresh_box {h : Heap} {b : Addr} (at_b : h.get? b = some (Tx.newI w)) : Upto kd h b ([] : List (Addr × K)) 0 := by
  refine ⟨[], #[], 0, .fresh 0 0 (!w.params.followText "set-order"), ⟨⟨_, at_b, ⟨rfl, rfl, rfl⟩, rfl⟩, rfl, ⟨List.Pairwise.nil, rfl, rfl, .inl rfl, fun y hy => (by cases hy), fun i z j hi => (by simp at hi)⟩, fun p hp => (by cases hp), ?_, (by show 0 * 5 < 7 * 3; decide), (by show 0 < 64; decide)⟩, List.Perm.refl _⟩
  show _ ∨ (!w.params.followText "set-order") = true
  cases w.params.followText "set-order"
  · exact .inr rfl
  · exact .inl rfl
theorem Upto.zero {h : Heap} {b : Addr} {ks : List (Addr × K)} (U : Upto kd h b [] 0) : Upto kd h b ks 0 := U
/-- set(a list of unlike things) -/
theorem set_unlike (Fi : Fit kd) {p : Addr} {items : Array Value} {ks : List (Addr × K)} {Q : Value → Shared → Prop} (calm : A.handled = none) (at_p : s.heap.IsList p items) (are : items.toList = ks.map fun q => Value.ref q.1) (at0 : ∀ q ∈ ks, kd.is s.heap q.2 q.1)
    (nd : (ks.map (·.2)).Nodup) (room : ks.length < 64) (ro : ∀ A', A'.units ≤ A.units + 16 → kd.room A')
    (fin : ∀ (h2 : Heap) (tk : Nat), Upto kd h2 s.heap.objs.size ks ks.length → (∀ b o, s.heap.get? b = some o → h2.get? b = some o) → Q (.ref s.heap.objs.size) { s with heap := h2, toks := tk }) :
    wpAny (model P w) A (call (.type "set") [.ref p]) Q E s := by
  have size : items.size = ks.length := by rw [← Array.length_toList, are, List.length_map]
  have ⟨c, tl, hmro⟩ := PySem.F.called_set.mro
  have made := PySem.F.called_set.made; have sub := PySem.F.called_set.sub; have notT := PySem.F.called_set.notType
  have can := PySem.F.called_set.canCreate; have chk := PySem.F.typeCall_set_1 (.ref p)
  apply wpAny_call; apply codeAny_of_tree
  show wpAny _ _ (callAny (.type "set") _) _ _ _
  refine wpAny_pure (And.intro (Code.quiet_builtin _ (by decide +kernel)) (codeAny_builtin PySem.F.entry_type_call ?_))
  rw [Around.under_plain (weight_type_call_type "set" [.ref p] []) rfl]
  repeat (any_goals first | assumption | wp_step)
  apply codeAny_mono (code_set_led1 (.ref p) (E := E) (Q₁ := fun v s1 => v = .ref s.heap.objs.size ∧ s1 = { s with heap := s.heap.push (Tx.newI w) }) (And.intro rfl rfl))
  rintro (e | fl) s1 hr
  · exact hr
  match fl, hr with
  | .next, hr => exact hr.elim
  | .brk, hr => exact hr.elim
  | .cont, hr => exact hr.elim
  | .ret v, hr =>
    obtain ⟨rfl, rfl⟩ := hr
    have at_b : (s.heap.push (Tx.newI w)).get? s.heap.objs.size = some (Tx.newI w) := Heap.get?_push_size _ rfl
    have isT : Shared.TypeIs { s with heap := s.heap.push (Tx.newI w) } (.ref s.heap.objs.size) "set" := ⟨_, at_b, rfl⟩
    have look := PySem.F.called_set.init.lookup; have bnd := PySem.F.called_set.init.bind (.ref s.heap.objs.size)
    repeat (any_goals first | assumption | wp_step)
    apply codeAny_mono (codeAny_call_builtin (R := wants (fun r s2 => r = .none ∧ ∃ h2 tk, s2 = { s with heap := h2, toks := tk } ∧ Upto kd h2 s.heap.objs.size ks ks.length ∧ ∀ b o, s.heap.get? b = some o → h2.get? b = some o) E)
      PySem.F.called_set.init.plain PySem.F.entry_set_init (check_set_init_1 isT ?_))
    · rintro (e | fl2) s2 hr2
      · exact hr2
      match fl2, hr2 with
      | .next, hr2 => exact hr2.elim
      | .brk, hr2 => exact hr2.elim
      | .cont, hr2 => exact hr2.elim
      | .ret v2, hr2 =>
        obtain ⟨rfl, h2, tk, rfl, T, keep⟩ := hr2
        repeat (any_goals first | assumption | wp_step)
        exact fin _ _ T keep
    · obtain ⟨ol, get_p, isc, n0, isd⟩ := at_p
      obtain ⟨ocl, odc, oda, osl⟩ := ol
      dsimp only at isc isd
      subst isc isd
      have get1 : (s.heap.push (Tx.newI w)).get? p = some { cls := .type "list", dict := odc, data := .seq items n0, slots := osl } := Heap.get?_push_of_some _ get_p
      have s1 := PySem.F.sub_list_set; have s2 := PySem.F.sub_list_frozenset
      have nd1 : (Value.type "list" == Value.type "dict") = false := by decide
      have lst1 : (s.heap.push (Tx.newI w)).IsList p items := ⟨_, get1, rfl, n0, rfl⟩
      unfold Builtin.«set.__init__»; unfold noKeywords; unfold Builtin.Frozenset.updateFrom
      generalize eI : pyIter = PI; wp_walk; subst eI
      apply wpAny_pyIter_list lst1; apply wpAny_bind; apply wpAny_runValue
      have ltp : p < s.heap.objs.size := Heap.lt_size get_p
      have calm3 : A.in1.in1.in1.handled = none := by simp [calm]
      have size1 : (s.heap.push (Tx.newI w)).objs.size = s.heap.objs.size + 1 := Heap.size_push ..
      have neI : p ≠ (s.heap.push (Tx.newI w)).objs.size := by
        rw [size1]
        exact Nat.ne_of_lt (Nat.lt_succ_of_lt ltp)
      have outb : s.heap.objs.size ∉ [(s.heap.push (Tx.newI w)).objs.size, p] := by
        rw [size1]
        intro z
        rcases List.mem_cons.mp z with z | z
        · exact absurd z (Nat.ne_of_lt (Nat.lt_succ_self _))
        · exact absurd (List.mem_singleton.mp z) (Nat.ne_of_gt ltp)
      have gone : ∀ c, s.heap.objs.size ≤ c → s.heap.get? c = none := fun c hc => by
        cases z : s.heap.get? c with
        | none => rfl
        | some o => exact absurd (Heap.lt_size z) (Nat.not_lt.mpr hc)
      have each : ∀ (i : Nat) (v : Value), items[i]? = some v → ∃ q, ks[i]? = some q ∧ v = .ref q.1 := fun i v hv => by
        rw [← Array.getElem?_toList, are, List.getElem?_map] at hv
        obtain ⟨q, h1, h2⟩ := Option.map_eq_some_iff.mp hv
        exact ⟨q, h1, h2.symm⟩
      refine fill Fi ((Walks.list calm3 _ p neI items).toS) outb ks size room nd each at0 (gone _ (Nat.le_refl _)) (fun c hc => gone _ (by rw [List.mem_singleton.mp hc, size1]; exact Nat.le_succ _)) (ro _ ?_) (items.size - 0) 0 _ (by omega) (Nat.zero_le _)
        ⟨⟨_, Heap.get?_push_size _ rfl, rfl, rfl⟩, lst1.push _⟩ (fun c o z => Heap.get?_push_of_some _ (Heap.get?_push_of_some _ z)) (Upto.zero (fresh_box (Heap.get?_push_of_some _ at_b))) fun s3 mv k3 U => ?_
      · show _ ≤ A.units + 16
        simp [Around.in1]
        try omega
      obtain ⟨h3, g3, d3, t3, o3⟩ := s3
      have e1 : g3 = s.gens := mv.gens
      have e2 : d3 = s.drawn := mv.drawn
      have e3 : o3 = s.os := mv.os
      subst e1 e2 e3
      show wpAny _ _ _ _ _ _
      apply wpAny_pure
      show wpAny _ _ (ret Value.none) _ _ _
      rw [size] at U
      exact wpAny_pure ⟨rfl, h3, t3, rfl, U, k3⟩
end
end Hs
/-! sum(a list of lists, []). -/
namespace Pd
open PySem PySem.Spec PySem.Calls PyProof.Rows L2
section
variable {X : Cx} {pins : List (Addr × Obj)} {σ : L2.St} {A1 : Around}
/-- the addresses of lists, and what they hold -/
abbrev Lsts (H : Hp) (ps : List Addr) (xss : List (List V)) : Prop := Paired (fun p xs => H p = some (.lst xs)) ps xss
theorem Lsts.at {H : Hp} : ∀ {ps : List Addr} {xss : List (List V)} {i : Nat}, Lsts H ps xss → i < ps.length → ∃ p xs, ps[i]? = some p ∧ xss.drop i = xs :: xss.drop (i + 1) ∧ H p = some (.lst xs)
  | _, _, _, .nil, h => absurd h (Nat.not_lt_zero _)
  | _, _, 0, .cons a _, _ => ⟨_, _, rfl, rfl, a⟩
  | _, _, i + 1, .cons _ t, h => Lsts.at (i := i) t (Nat.lt_of_succ_lt_succ h)
theorem sum_loop {S it l b0 : Addr} {H0 : Hp} {ps : List Addr} {xss : List (List V)} {Rs : Result → Shared → Prop} (hc : A1.in1.handled = none) (nS : S ≠ it) (nl : l ≠ it) (hl : H0 l = some (.lst (ps.map V.ref))) (hp : Lsts H0 ps xss)
    (fin : ∀ s H q acc, Inv X pins σ H s → Sm H0 H → H q = some (.lst acc) → acc = xss.flatten → (q = b0 ∨ H0 q = none) → Rs (.ok (.ret (.ref q))) s) : ∀ (k i : Nat) (s : Shared) (H : Hp) (tot : Addr) (acc : List V) (n : Nat), ps.length - i = k → i ≤ ps.length → Inv X pins σ H s → Sm H0 H → FpOk X pins H S → FpOk X pins H it →
      s.heap.get? S = some { cls := .type "list", data := .seq #[.ref tot] n } → s.heap.IsListIter it l i → H tot = some (.lst acc) → acc ++ (xss.drop i).flatten = xss.flatten → xss.flatten.length ≤ sizeLine → (tot = b0 ∨ H0 tot = none) →
      codeAny (model X.prog X.w) A1 (.builtin "sum.loop" ⟨[.ref it, .ref S, rawInt 2, rawInt 0], []⟩) Rs s := by
  intro k
  induction k with
  | zero =>
    intro i s H tot acc n hk hi I sm fS fI hS st ht ea hz hb0
    have e : i = ps.length := by omega
    obtain ⟨z, its, n2, rv, hl2, at_l⟩ := I.lstM (sm _ _ hl)
    obtain ⟨f0, f1, f2, f3, f4, f5⟩ := fI
    rw [List.length_map] at hl2
    refine codeAny_builtin PySem.F.entry_sum_loop ?_
    rw [Around.under_plainId PySem.F.plain_sum_loop _]
    show wpAny (model X.prog X.w) A1.in1 (seqItems? (.ref S) >>= _) _ _ s
    refine wpAny_bind (wpAny_seqItems hS rfl ?_)
    show wpAny (model X.prog X.w) A1.in1 (tryCatch (pyNext (.ref it)) _ >>= _) _ _ s
    refine wpAny_bind (wpAny_tryCatch (wpAny_pyNext_list_end hc st ⟨_, at_l, rfl, _, rfl⟩ (by simp; omega) fun h' eb => ?_))
    have I1 : Inv X pins σ H { s with heap := h' } := I.turned (t' := s.toks) (fun b o hb e => eb b o hb e) f0 f1 f3 f4 f5
    refine wpAny_pure (fin _ H tot acc I1 sm ht ?_ hb0)
    have d : xss.drop i = [] := List.drop_eq_nil_of_le (by rw [e, Paired.length hp]; exact Nat.le_refl _)
    rw [d, List.flatten_nil, List.append_nil] at ea
    exact ea
  | succ k ih =>
    intro i s H tot acc n hk hi I sm fS fI hS st ht ea hz hb0
    have lt : i < ps.length := by omega
    obtain ⟨p, xs, e1, e2, e3⟩ := hp.at lt
    obtain ⟨z, its, n2, rv, hl2, at_l⟩ := I.lstM (sm _ _ hl)
    obtain ⟨z3, its3, n3, rv3, hl3, at_t⟩ := I.lstM ht
    obtain ⟨f0, f1, f2, f3, f4, f5⟩ := fI
    obtain ⟨u, hu, ru⟩ := rv.get (i := i) (x := V.ref p) (by rw [List.getElem?_map, e1]; rfl)
    cases ru
    refine codeAny_builtin PySem.F.entry_sum_loop ?_
    rw [Around.under_plainId PySem.F.plain_sum_loop _]
    show wpAny (model X.prog X.w) A1.in1 (seqItems? (.ref S) >>= _) _ _ s
    refine wpAny_bind (wpAny_seqItems hS rfl ?_)
    show wpAny (model X.prog X.w) A1.in1 (tryCatch (pyNext (.ref it)) _ >>= _) _ _ s
    refine wpAny_bind (wpAny_tryCatch (wpAny_pyNext_list_item st ⟨_, at_l, rfl, _, rfl⟩ (x := .ref p) (by simpa using hu) fun h' st' sb => ?_))
    have I1 : Inv X pins σ H { s with heap := h' } := I.turned (t' := s.toks) (fun b o hb e => (sb.2 b hb).trans e) f0 f1 f3 f4 f5
    obtain ⟨_, its4, n4, rv4, hl4, at_p⟩ := I1.lstM (sm _ _ e3)
    obtain ⟨_, its5, n5, rv5, hl5, at_t2⟩ := I1.lstM ht
    have few : acc.length + xs.length ≤ sizeLine := by
      have z := congrArg List.length ea
      rw [e2, List.flatten_cons, List.length_append, List.length_append] at z
      omega
    show wpAny (model X.prog X.w) A1.in1 ((holding [Value.ref p] (binaryOp .Add (.ref tot) (.ref p))).attempt >>= _) _ _ _
    refine wpAny_bind (wpAny_attempt (wpAny_holding (PySem.P.add_list at_t2 at_p ?_ (by rw [List.size_toArray, List.size_toArray]; omega))))
    have ea2 : its5.toArray ++ its4.toArray = (its5 ++ its4).toArray := by simp
    rw [ea2]
    have I2 := I1.lnew (t' := s.toks) (rv5.append rv4) (by rw [List.length_append]; exact few)
    have hS1 : h'.get? S = some { cls := .type "list", data := .seq #[.ref tot] n } := (sb.2 S nS).trans hS
    have nq : h'.objs.size ≠ S := Nat.ne_of_gt (Heap.lt_size hS1)
    have niq : h'.objs.size ≠ it := by obtain ⟨o, ho, _⟩ := st'; exact Nat.ne_of_gt (Heap.lt_size ho)
    have hS2 : (h'.push { cls := .type "list", data := .seq (its5 ++ its4).toArray }).get? S = some { cls := .type "list", data := .seq #[.ref tot] n } := Heap.get?_push_of_some _ hS1
    obtain ⟨g0, g1, g2, g3, g4, g5⟩ := fS
    have g0' : upd H h'.objs.size (.lst (acc ++ xs)) S = none := by rw [upd_ne (Ne.symm nq)]; exact g0
    have f0' : upd H h'.objs.size (.lst (acc ++ xs)) it = none := by rw [upd_ne (Ne.symm niq)]; exact f0
    show wpAny (model X.prog X.w) A1.in1 (updateSeq S (fun _ => #[.ref h'.objs.size]) >>= _) _ _ _
    refine wpAny_bind (wpAny_updateSeq hS2 rfl ?_)
    have hS3 := Heap.get?_update_self (Obj.mapSeq fun _ => #[Value.ref h'.objs.size]) hS2 rfl
    refine wpAny_bind (wpAny_letGo ?_)
    refine wpAny_bind (wpAny_updateSeq hS3 rfl (wpAny_pure ⟨plainId_quiet PySem.F.plain_sum_loop _, ?_⟩))
    have up : ∀ b o, b ≠ S → (h'.push { cls := .type "list", data := .seq (its5 ++ its4).toArray }).get? b = some o → (((h'.push { cls := .type "list", data := .seq (its5 ++ its4).toArray }).update S (Obj.mapSeq fun _ => #[Value.ref h'.objs.size])).update S (Obj.mapSeq fun _ => #[Value.ref h'.objs.size])).get? b = some o :=
      fun b o n e => (Heap.get?_update_other _ _ (Ne.symm n)).trans ((Heap.get?_update_other _ _ (Ne.symm n)).trans e)
    have I3 := I2.turned (t' := s.toks) (it := S) up g0' g1 g3 g4 g5
    refine ih (i + 1) _ _ h'.objs.size (acc ++ xs) n (by omega) (by omega) I3 (fun b o e => ?_) ⟨g0', g1, g2, g3, g4, g5⟩ ⟨f0', f1, f2, f3, f4, f5⟩ (Heap.get?_update_self _ hS3 rfl) ?_ upd_same ?_ hz (.inr ?_)
    · rw [upd_ne (ne_of_none (sm _ _ e) I1.fresh)]
      exact sm _ _ e
    · exact st'.at fun o e => up it o (Ne.symm nS) (Heap.get?_push_of_some _ e)
    · rw [← ea, e2, List.flatten_cons, List.append_assoc]
    · cases q : H0 h'.objs.size with
      | none => rfl
      | some o => have z := sm _ _ q; rw [I1.fresh] at z; cases z
end
end Pd
/-! sum(a list of lists, []): the rule. -/
namespace Pd
open PySem PySem.Spec PySem.Calls PyProof.Rows L2
theorem args_sum2 (a b : Value) : argsOk "sum" ⟨[a, b], []⟩ := by unfold argsOk; kernel_rfl
theorem ls_str : isSubtype (.type "list") (.type "str") = pure false := by rw [isSubtype_type]; kernel_rfl
theorem ls_bytes : isSubtype (.type "list") (.type "bytes") = pure false := by rw [isSubtype_type]; kernel_rfl
theorem ls_bytearray : isSubtype (.type "list") (.type "bytearray") = pure false := by rw [isSubtype_type]; kernel_rfl
def rSumL : List V → Hp → VK → Prop := fun vs H Q => ∃ (l b : Addr) (ps : List Addr) (xss : List (List V)), vs = [.ref l, .ref b] ∧ H l = some (.lst (ps.map V.ref)) ∧ H b = some (.lst []) ∧ Lsts H ps xss ∧ xss.flatten.length ≤ sizeLine ∧
  ∀ q H', Sm H H' → H' q = some (.lst xss.flatten) → (q = b ∨ H q = none) → Q (.ref q) H'
section
variable {X : Cx}
theorem call_sumL (hcm : X.calm = true) : CallR X (.builtin "sum") rSumL := by
  intro pins s σ H vs us Q I r h
  obtain ⟨l, b, ps, xss, rfl, hl, hb, hp, hz, q⟩ := h
  obtain ⟨u1, u2, rfl, a1, a2⟩ := vals2 r
  cases a1
  cases a2
  obtain ⟨z, its, n, rv, hl2, at_l⟩ := I.lstM hl
  obtain ⟨_, its2, n2, rv2, _, at_b⟩ := I.lstM hb
  refine call_function_tree PySem.F.kind_sum PySem.F.plain_sum PySem.F.entry_sum (args_sum2 _ _) ?_
  delta Builtin.«sum»
  simp only [List.length_cons, List.length_nil]
  rw [if_neg (by decide)]
  refine wpAny_bind (wpAny_of_eq (show Builtin.Builtins.bindParams "sum" ["start"] 0 ⟨[.ref b], []⟩ = pure [some (.ref b)] from rfl) ?_)
  refine wpAny_bind (wpAny_pyIter_list ⟨_, at_l, rfl, _, rfl⟩ (wpAny_bind (wpAny_pure ?_)))
  have tb : Shared.TypeIs { s with heap := s.heap.push { cls := .type "list_iterator", data := .fields #[.ref l, .int 0 0] } } (.ref b) "list" := ⟨_, Heap.get?_push_of_some _ at_b, rfl⟩
  simp only [List.forIn_cons, List.forIn_nil]
  refine wpAny_bind (wpAny_bind (wpAny_bind (wpAny_isInstance (T := "list") (b := false) tb ls_str ?_)))
  simp only [Bool.false_eq_true, if_false]
  refine wpAny_pure (wpAny_bind (wpAny_bind (wpAny_isInstance (T := "list") (b := false) tb ls_bytes ?_)))
  simp only [Bool.false_eq_true, if_false]
  refine wpAny_pure (wpAny_bind (wpAny_bind (wpAny_isInstance (T := "list") (b := false) tb ls_bytearray ?_)))
  simp only [Bool.false_eq_true, if_false]
  refine wpAny_pure (wpAny_pure (wpAny_bind (wpAny_newObj_type ?_)))
  refine wpAny_pure ⟨plainId_quiet PySem.F.plain_sum_loop _, ?_⟩
  have sz : (s.heap.push { cls := .type "list_iterator", data := .fields #[.ref l, .int 0 0] }).objs.size = s.heap.objs.size + 1 := Heap.size_push ..
  have I1 : Inv X pins σ H { s with heap := (s.heap.push { cls := .type "list_iterator", data := .fields #[.ref l, .int 0 0] }).push { cls := .type "list", data := .seq #[.ref b] } } := I.kept (t' := s.toks) fun c o e => Heap.get?_push_of_some _ (Heap.get?_push_of_some _ e)
  have lt := Heap.lt_size at_l
  refine sum_loop (l := l) (H0 := H) (A1 := X.A) (I.ok.hd hcm) (Nat.ne_of_gt (by rw [sz]; exact Nat.lt_succ_self _)) (Nat.ne_of_lt lt) hl hp (fun s' H' q' acc I' sm hq e hb0 => ?_) _ 0 _ H b [] _ rfl (Nat.zero_le _) I1 (fun _ _ e => e)
    (I.fpOk (by rw [sz]; exact Nat.le_succ _) (I.hok.fresh (by rw [sz]; exact Nat.le_succ _))) (I.fpOk (Nat.le_refl _) (I.hok.fresh (Nat.le_refl _))) (Heap.get?_push_size _ rfl) ⟨_, Heap.get?_push_of_some _ (Heap.get?_push_size _ rfl), rfl, rfl⟩ hb (by rw [List.nil_append, List.drop_zero]) hz (.inl rfl)
  subst e
  exact ⟨.ref q', H', I', rfl, q q' H' sm hq hb0⟩
end
end Pd
/-! sum(a list of lists, []), as data. -/
namespace Pd
open PySem PySem.Spec PySem.Calls PyProof.Rows L2
theorem lsts_in {K : PySem.W.Frag} {g : Option Addr} {Hh H : Hp} (sm : Sm Hh H) : ∀ {xss : List (List Da)} {us : List V}, DvAll K g Hh us (xss.map .lst) → ∃ (ps : List Addr) (vss : List (List V)), us = ps.map V.ref ∧ Lsts H ps vss ∧ DvAll K g Hh vss.flatten xss.flatten
  | [], _, h => by cases h; exact ⟨[], [], rfl, .nil, .nil⟩
  | xs :: xss, _, h => by
    cases h with
    | cons a t =>
      obtain ⟨ps, vss, rfl, h2, h3⟩ := lsts_in sm t
      cases a with
      | @lst c ys _ b1 b2 => exact ⟨c :: ps, ys :: vss, rfl, .cons (sm _ _ b1) h2, by rw [List.flatten_cons, List.flatten_cons]; exact b2.app h3⟩
def sumLD : DB := fun ds Q => ∃ xss : List (List Da), ds = [.lst (xss.map .lst), .lst []] ∧ xss.flatten.length ≤ sizeLine ∧ Q (.lst xss.flatten)
section
variable {X : Cx} {w : Wd} {e : Expr} {es : List Expr} {p pos : Pos}
theorem ped_sumL {t : TDA} (hm : X.mg "sum" = none) (args : PAd X w (e :: es) t) (hc : X.calm = true := by rfl) (hg : Gl X "sum" := by rfl) (he : starEach (e :: es) X.env = (false, eval e X.env) :: starEach es X.env := by rfl) (hpl : (backTo pos (starEach es X.env)).any (·.1) = false := by rfl) :
    PEd X w (.Call (.Name "sum" p) (e :: es) [] pos) (dCall sumLD t) := by
  refine ped_callB (call_sumL hc) (fun ds Q Q' q ⟨x, a, b, h⟩ => ⟨x, a, b, q _ h⟩) ?_ hm PyProof.Rows.boot_sum args hg (by decide) (by decide) he hpl
  rintro g W H vs ds Q k dv ⟨xss, rfl, hz, h⟩
  obtain ⟨v, u, rfl, d1, d2⟩ := dv.two
  cases d1 with
  | @lst l us _ a1 a2 =>
  cases d2 with
  | @lst b ys _ b1 b2 =>
  cases b2
  obtain ⟨ps, vss, rfl, h2, h3⟩ := lsts_in (H := H) hid_sub a2
  refine ⟨l, b, ps, vss, rfl, (hid_some a1).2, (hid_some b1).2, h2, by rw [h3.len]; exact hz, fun q H' sm hq hb => ?_⟩
  have wq : W q = false := by
    rcases hb with e | e
    · rw [e]; exact (hid_some b1).1
    · cases z : W q with
      | false => rfl
      | true => obtain ⟨o, ho⟩ := k.al q z; rw [e] at ho; cases ho
  exact h _ H' (Ext.of sm) (k.same sm) (.lst (by rw [hid_no wq]; exact hq) (DvAll.mono (Ext.hid k.gW (Ext.of sm)) _ _ h3))
end
end Pd
/-! len(set(a list of unlike tuples of texts)). -/
namespace Pd
open PySem PySem.Spec PyProof.Rows L2
section
variable {P : Program} {w : World} {A : Around} {E : Value → Shared → Prop} {s : Shared}
theorem strs_in {k : List Str} {vs : List Value} (h : ItemsAre (strKind P w) k vs) : ∀ v ∈ vs, ∃ x t, v = Value.str x t := by
  induction h with
  | nil => intro v hv; exact absurd hv List.not_mem_nil
  | @cons x u xs us h1 _ ih =>
    intro v hv
    rcases List.mem_cons.mp hv with e | m
    · obtain ⟨t, z⟩ := Value.isStrOf_shape h1
      exact ⟨x, t, e.trans z⟩
    · exact ih v m
theorem cls_str (n : Nat) (x : Str) (t : Tok) : ofAClassStatement n (.str x t) = pure false := by cases n <;> rfl
theorem byv_str (n : Nat) (x : Str) (t : Tok) : hashByValue n (.str x t) = pure false := by cases n <;> rfl
theorem fit_strs : Hs.Fit (tupleKind (strKind P w)) where
  stay := fun keep x => by
    obtain ⟨o, its, n, h1, h2, h3, h4⟩ := x
    exact ⟨o, its, n, keep _ _ _ _ h1 h3, h2, h3, h4⟩
  cls := fun {A E s k b Q} x q => by
    have isT := IsTupleKey.typeIs x
    obtain ⟨o, its, n, h1, h2, h3, h4⟩ := x
    unfold ofAClassStatement
    apply wpAny_bind
    refine wpAny_typeOf isT ?_
    dsimp only
    have e : (("tuple" : String) == "tuple") = true := by decide
    simp only [e, if_true, Bool.not_true, Bool.false_eq_true, if_false]
    try refine wpAny_bind (wpAny_pure ?_)
    try simp only [Bool.not_true, Bool.false_eq_true, if_false]
    show wpAny _ _ (seqItems? (.ref b) >>= _) _ _ s
    apply wpAny_bind
    refine wpAny_seqItems h1 h3 ?_
    dsimp only
    apply wpAny_bind
    show wpAny _ _ (forIn its _ _) _ _ s
    rw [← Array.forIn_toList]
    refine wpAny_forIn_list _ (fun left r s1 => s1 = s ∧ r.1 = none ∧ ∀ v ∈ left, ∃ x t, v = Value.str x t) _ ?_ ?_ _ _ ⟨rfl, rfl, strs_in h4⟩
    · rintro v left r s1 ⟨rfl, hr, all⟩
      obtain ⟨x, t, rfl⟩ := all v List.mem_cons_self
      rw [cls_str]
      apply wpAny_bind
      apply wpAny_pure
      simp only [Bool.false_eq_true, if_false]
      exact wpAny_pure ⟨rfl, rfl, fun u hu => all u (List.mem_cons_of_mem _ hu)⟩
    · rintro ⟨r1, r2⟩ s1 ⟨rfl, hr, _⟩
      cases hr
      exact wpAny_pure q
  byv := fun {A E s k b Q} x q => by
    have isT := IsTupleKey.typeIs x
    obtain ⟨o, its, n, h1, h2, h3, h4⟩ := x
    unfold hashByValue
    apply wpAny_bind
    refine wpAny_specialOf isT PySem.F.slot_tuple_hash.lookup ?_
    show wpAny _ _ (seqItems? (.ref b) >>= _) _ _ s
    apply wpAny_bind
    refine wpAny_seqItems h1 h3 ?_
    apply wpAny_bind
    show wpAny _ _ (forIn its _ _) _ _ s
    rw [← Array.forIn_toList]
    refine wpAny_forIn_list _ (fun left r s1 => s1 = s ∧ r.1 = none ∧ ∀ v ∈ left, ∃ x t, v = Value.str x t) _ ?_ ?_ _ _ ⟨rfl, rfl, strs_in h4⟩
    · rintro v left r s1 ⟨rfl, hr, all⟩
      obtain ⟨x, t, rfl⟩ := all v List.mem_cons_self
      rw [byv_str]
      apply wpAny_bind
      apply wpAny_pure
      simp only [Bool.not_false, if_true]
      exact wpAny_pure (wpAny_pure (q _))
    · rintro ⟨r1, r2⟩ s1 ⟨rfl, hr, _⟩
      cases hr
      exact wpAny_pure (q _)
end
/-- a set of n things -/
def SetN (a : Addr) (n : Nat) : HO := .ext fun h => ∃ o es ep t, h.get? a = some o ∧ o.ExactSet ∧ o.data = .set es ep t ∧ t.fits es.size = true ∧ es.size = n
theorem setN_ok {P : Program} {w : World} {H : Hp} {h : Heap} {a : Addr} {n : Nat} (R : ∃ o es ep t, h.get? a = some o ∧ o.ExactSet ∧ o.data = .set es ep t ∧ t.fits es.size = true ∧ es.size = n) : ObjOk P w H h a (SetN a n) := by
  obtain ⟨o, es, ep, t, ho, r⟩ := R
  refine ⟨⟨o, es, ep, t, ho, r⟩, ⟨o, ho⟩, fun h1 h2 p k => ?_⟩
  obtain ⟨o', es', ep', t', ho', r'⟩ := p
  exact ⟨o', es', ep', t', k o' ho', r'⟩
theorem items_strs {P : Program} {w : World} : ∀ {k : List Str} {us : List Value}, Vals (k.map V.str) us → ItemsAre (strKind P w) k us
  | [], _, h => by cases h; exact .nil
  | x :: k, _, h => by
    cases h with
    | cons r t =>
      obtain ⟨tk, rfl⟩ := r
      exact .cons (Froz.is_str x tk) (items_strs t)
section
variable {X : Cx} {pins : List (Addr × Obj)} {σ : L2.St} {H : Hp} {s : Shared}
theorem key_strs {b : Addr} {k : List Str} (I : Inv X pins σ H s) (h : SqT X.K H b (k.map V.str)) : IsTupleKey (strKind X.prog X.w) s.heap k b := by
  obtain ⟨its, r, ⟨o, ho, hc, n, hd⟩, _⟩ := I.tuple h
  exact ⟨o, its.toArray, n, ho, hc, hd, by simpa using items_strs r⟩
theorem refs_in {ks : List (Addr × List Str)} {us : List Value} (h : Vals (ks.map fun p => V.ref p.1) us) : us = ks.map fun p => Value.ref p.1 := by
  induction ks generalizing us with
  | nil => cases h; rfl
  | cons p ks ih =>
    cases h with
    | cons r t =>
      cases r
      rw [ih t]
      rfl
def rSetU (K : PySem.W.Frag) : List V → Hp → VK → Prop := fun vs H Q => ∃ (l : Addr) (ks : List (Addr × List Str)), vs = [.ref l] ∧ H l = some (.lst (ks.map fun p => V.ref p.1)) ∧ (∀ p ∈ ks, SqT K H p.1 (p.2.map V.str)) ∧ (ks.map (·.2)).Nodup ∧ ks.length < 64 ∧
  ∀ p, H p = none → Q (.ref p) (upd H p (SetN p ks.length))
theorem cr_setU {k : Nat} (hr : Room k X.A) (hc : X.calm = true) : CallR X (.type "set") (rSetU X.K) := by
  intro pins s σ H vs us Q I r h
  obtain ⟨l, ks, rfl, hl, hk, nd, few, q⟩ := h
  obtain ⟨its, rv, pl, _⟩ := I.list (SqL.of (K := X.K) hl)
  rw [Vals.ref1 r]
  have ru := hr.units
  refine Hs.set_unlike (kd := tupleKind (strKind X.prog X.w)) fit_strs (ks := ks) (I.ok.hd hc) pl.isList (by simpa using refs_in rv) (fun p hp => key_strs I (hk p hp)) nd few (fun A' le => ?_) fun h2 tk U keep => ?_
  · show A'.units < cLine
    omega
  · have hn : H s.heap.objs.size = none := I.hok.fresh (Nat.le_refl _)
    obtain ⟨L, es, ep, t, B, pm⟩ := U
    obtain ⟨o, ho, ex, hd⟩ := B.obj
    have len : es.size = ks.length := by rw [Hs.ents_len B.all, pm.length_eq, List.take_length]
    have J : Inv X pins σ (upd H s.heap.objs.size (SetN s.heap.objs.size ks.length)) { s with heap := h2, toks := tk } :=
      I.call (ch := []) (Un.laid keep (Nat.le_refl _) hn) (I.hok.laid keep (Nat.le_refl _) (setN_ok ⟨o, es, ep, t, ho, ex, hd, Hs.fits_of B.tab (Hs.ents_len B.all) (by have := B.air; omega), len⟩)) I.bare (fun _ z => nomatch z)
    exact ⟨.ref s.heap.objs.size, _, J, rfl, q _ hn⟩
def rLenN : List V → Hp → VK → Prop := fun vs H Q => ∃ (b : Addr) (n : Nat), vs = [.ref b] ∧ H b = some (SetN b n) ∧ n < 64 ∧ Q (.int n) H
theorem cr_lenN : CallR X (.builtin "len") rLenN := by
  intro pins s σ H vs us Q I r h
  obtain ⟨b, n, rfl, hb, few, q⟩ := h
  rw [Vals.ref1 r]
  have R := (I.hok b _ hb).1
  obtain ⟨o, es, ep, t, ho, ex, hd, hf, hn⟩ := R
  refine call_len_set ho ex hd hf (by rw [hn]; omega) ⟨.int n, H, I.tok _, ⟨_, by rw [hn]⟩, q⟩
end
end Pd
namespace Pd
open PySem PySem.Spec PyProof.Rows L2
theorem tups_in {K : PySem.W.Frag} {g : Option Addr} {Hh H : Hp} (sm : Sm Hh H) : ∀ {S : List (List Str)} {us : List V}, DvAll K g Hh us (S.map fun a => .tup (a.map .str)) → ∃ ks : List (Addr × List Str), us = ks.map (fun p => V.ref p.1) ∧ ks.map (·.2) = S ∧ ∀ p ∈ ks, SqT K H p.1 (p.2.map V.str)
  | [], _, h => by cases h; exact ⟨[], rfl, rfl, fun p hp => nomatch hp⟩
  | a :: S, _, h => by
    cases h with
    | cons x t =>
      obtain ⟨ks, rfl, h2, h3⟩ := tups_in sm t
      cases x with
      | @tup c ys _ b1 b2 =>
        have e := b2.strs
        subst e
        refine ⟨(c, a) :: ks, rfl, by rw [List.map_cons, h2], fun p hp => ?_⟩
        rcases List.mem_cons.mp hp with z | z
        · subst z
          exact sqt_mono sm b1.sq
        · exact h3 p z
section
variable {X : Cx} {w : Wd} {e : Expr} {te : TDE} {pos : Pos}
def dLenU (te : TDE) : TDE := fun r Q => te r fun x => ∃ S : List (List Str), x = .lst (S.map fun a => .tup (a.map .str)) ∧ S.Nodup ∧ S.length < 64 ∧ Q (.int (S.length : Nat))
theorem ped_lenSetU {p p2 q : Pos} {k : Nat} (hr : Room k X.A) (hm : X.mg "len" = none) (hm2 : X.mg "set" = none) (he : PEd X w e te) (hc : X.calm = true := by rfl) (hg : Gl X "len" := by rfl) (hg2 : Gl X "set" := by rfl)
    (st : starEach [e] X.env = (false, eval e X.env) :: starEach [] X.env := by rfl) (st2 : starEach [.Call (.Name "set" p2) [e] [] q] X.env = (false, eval (.Call (.Name "set" p2) [e] [] q) X.env) :: starEach [] X.env := by rfl) :
    PEd X w (.Call (.Name "len" p) [.Call (.Name "set" p2) [e] [] q] [] pos) (dLenU te) := by
  refine ⟨weE (pe_callB cr_lenN hg hm PySem.boot_len (pa_cons (pe_callTy (cr_setU hr hc) hg2 hm2 (by decide +kernel) (pa_cons he.pe pa_nil st) (by decide) (by decide) (by exact st) (by rfl)) pa_nil st2) (by decide) (by decide) (by exact st2) (by rfl)) ?_, fun r Q Q' q h => he.mo _ _ _ (fun d ⟨S, h1, h2, h3, h4⟩ => ⟨S, h1, h2, h3, q _ h4⟩) h⟩
  rintro σ H Q ⟨W, own, r, S, z⟩
  refine go1 he S z fun d v H1 e1 k1 d1 ⟨ns, h1, h2, h3, h4⟩ => ?_
  subst h1
  cases d1 with
  | @lst a us _ a1 a2 =>
    obtain ⟨ks, rfl, rfl, hk⟩ := tups_in (H := H1) hid_sub a2
    rw [List.length_map] at h3 h4
    refine ⟨a, ks, rfl, (hid_some a1).2, hk, h2, h3, fun p np => ?_⟩
    refine ⟨p, ks.length, rfl, upd_same, h3, ?_⟩
    obtain ⟨x1, x2, _, _⟩ := k1.new (o := SetN p ks.length) np
    exact h4 _ _ (e1.trans x1) x2 (.int _)
end
end Pd
/-! a test: two instances of a class with its own __eq__. -/
namespace Pd
open PySem PySem.Spec PyProof.Rows L2
section
variable {X : Cx} {w : Wd} {a b : Expr} {ta tb : TDE} {pos : Pos} {k : Nat} {C : Addr} {ps : List Str} {p : DSp}
theorem ptd_eqO (K' : PySem.W.Frag) (c : CalldS X.prog X.w K' X.mg X.base k C "__eq__" ps p) (room : Room k X.A) (hG : X.A.guards = some []) (cl : Cls K' C) (o : OwnEqF K' C) (ha : PEd X w a ta) (hb : PEd X w b tb) (hk : X.K = K' := by rfl) : PTd X w (.Compare a [.Eq] [b] pos) (dB (dOp (eqOD false K' C p) ta tb)) := by
  subst hk
  exact ptd_cmp (op_eqO c room hG) (nobehind _ (by decide) (by decide)) (eqOD_mo c.mp) (eqO_br cl o c.mp) ha hb
theorem ptd_neO (K' : PySem.W.Frag) (c : CalldS X.prog X.w K' X.mg X.base k C "__eq__" ps p) (room : Room (k + 1) X.A) (hG : X.A.guards = some []) (cl : Cls K' C) (o : OwnEqF K' C) (ha : PEd X w a ta) (hb : PEd X w b tb) (hk : X.K = K' := by rfl) : PTd X w (.Compare a [.NotEq] [b] pos) (dB (dOp (eqOD true K' C p) ta tb)) := by
  subst hk
  exact ptd_cmp (op_neO o c room hG) (nobehind _ (by decide) (by decide)) (eqOD_mo c.mp) (eqO_br cl o c.mp) ha hb
end
end Pd
namespace K37
open PySem PySem.Spec PyProof.Rows L2 Pd
/-! ### sums: rising, unlike, few -/
theorem sumsF_rise {ts : List Str} : ∀ {m : Nat} {one : List Str}, one ∈ sumsF ts m → one.Pairwise leS
  | 0, one, h => by
    have e : one = [] := by simpa [sumsF] using h
    subst e
    exact .nil
  | m + 1, one, h => by
    obtain ⟨p, hp, hq⟩ := List.mem_flatMap.mp h
    unfold nextS at hq
    obtain ⟨x, hx, rfl⟩ := List.mem_map.mp hq
    have ok := (List.mem_filter.mp hx).2
    have up := sumsF_rise hp
    refine List.pairwise_append.mpr ⟨up, List.pairwise_singleton .., fun y hy z hz => ?_⟩
    rw [List.mem_singleton.mp hz]
    unfold okN at ok
    cases e : p.getLast? with
    | none =>
      rw [List.getLast?_eq_none_iff] at e
      rw [e] at hy
      cases hy
    | some l =>
      rw [e] at ok
      have lx : leS l x := by
        unfold ltS at ok
        simpa [leS] using ok
      obtain ⟨q, rfl⟩ := List.getLast?_eq_some_iff.mp e
      rcases List.mem_append.mp hy with a | a
      · exact leS_trans ((List.pairwise_append.mp up).2.2 y a l (List.mem_singleton.mpr rfl)) lx
      · rw [List.mem_singleton.mp a]
        exact lx
theorem sumsF_sum {ts : List Str} {m : Nat} (hm : m ≤ 3) {one : List Str} (h : one ∈ sumsF ts m) : SumOf ts one := ⟨(sumsF_mem h).2, by rw [(sumsF_mem h).1]; exact hm, sorted_of (sumsF_rise h)⟩
theorem sumsF_nd {ts : List Str} (nd : ts.Nodup) : ∀ m : Nat, (sumsF ts m).Nodup
  | 0 => List.nodup_cons.mpr ⟨List.not_mem_nil, List.nodup_nil⟩
  | m + 1 => by
    refine List.pairwise_flatMap.mpr ⟨fun p _ => ?_, (sumsF_nd nd m).imp fun {p q} ne x hx y hy e => ?_⟩
    · unfold nextS
      rw [List.pairwise_map]
      exact (nd.sublist List.filter_sublist).imp fun {a b} ne e => ne (List.cons.inj (List.append_cancel_left e)).1
    · unfold nextS at hx hy
      obtain ⟨a, _, rfl⟩ := List.mem_map.mp hx
      obtain ⟨b, _, rfl⟩ := List.mem_map.mp hy
      exact ne (List.append_inj_left' e rfl)
theorem sumsI_15 : ∀ n < 6, (sumsI n 2).length ≤ 15 := by decide +kernel
theorem sums_15 {ts : List Str} (g : Good ts) (hl : ts.length ≤ 5) : (sumsF ts 2).length ≤ 15 := by
  rw [sumsF_I (ris_of g.srt g.nd), List.length_map]
  exact sumsI_15 _ (by omega)
theorem pairsF_in {S : List (List Str)} {p : List Str × List Str} (h : p ∈ pairsF S) : p.1 ∈ S ∧ p.2 ∈ S := by
  unfold pairsF at h
  obtain ⟨q, hq, z⟩ := List.mem_flatMap.mp h
  obtain ⟨o, ho, rfl⟩ := List.mem_map.mp z
  exact ⟨(List.mem_zipIdx hq).2.2 ▸ List.getElem_mem _, List.mem_of_mem_drop ho⟩
/-! ### the telling that worths fit -/
def trueT (f : Str → Int) (p : List Str × List Str) : Tl := if wordOf (wOf f p.1 - wOf f p.2) = "lighter" then ⟨"heavier", p.2, p.1⟩ else ⟨wordOf (wOf f p.1 - wOf f p.2), p.1, p.2⟩
theorem lighter_iff (i : Int) : wordOf i = "lighter" ↔ i < 0 := by
  unfold wordOf
  by_cases h : i = 0
  · rw [if_pos h]
    exact ⟨fun e => absurd e (by decide +kernel), fun l => by omega⟩
  · rw [if_neg h]
    by_cases h2 : i > 0
    · rw [if_pos h2]
      exact ⟨fun e => absurd e (by decide +kernel), fun l => by omega⟩
    · rw [if_neg h2]
      exact ⟨fun _ => by omega, fun _ => rfl⟩
theorem alike_iff (i : Int) : wordOf i = "alike" ↔ i = 0 := by
  unfold wordOf
  by_cases h : i = 0
  · rw [if_pos h]
    exact ⟨fun _ => h, fun _ => rfl⟩
  · rw [if_neg h]
    by_cases h2 : i > 0
    · rw [if_pos h2]
      exact ⟨fun e => absurd e (by decide +kernel), fun l => absurd l h⟩
    · rw [if_neg h2]
      exact ⟨fun e => absurd e (by decide +kernel), fun l => absurd l h⟩
theorem heavier_of {i : Int} (h : 0 < i) : wordOf i = "heavier" := by
  unfold wordOf
  rw [if_neg (by omega), if_pos h]
theorem alike_of {i : Int} (h : i = 0) : wordOf i = "alike" := (alike_iff i).mpr h
theorem true_ok (f : Str → Int) (p : List Str × List Str) : okT f (trueT f p) = true := by
  unfold trueT
  by_cases h : wordOf (wOf f p.1 - wOf f p.2) = "lighter"
  · rw [if_pos h]
    have z := (lighter_iff _).mp h
    show soB "heavier" (wOf f p.2) (wOf f p.1) = true
    unfold soB
    rw [if_pos rfl]
    exact decide_eq_true (by omega)
  · rw [if_neg h]
    have z : ¬ wOf f p.1 - wOf f p.2 < 0 := fun y => h ((lighter_iff _).mpr y)
    show soB (wordOf (wOf f p.1 - wOf f p.2)) (wOf f p.1) (wOf f p.2) = true
    by_cases e : wOf f p.1 - wOf f p.2 = 0
    · rw [alike_of e]
      unfold soB
      rw [if_neg (by decide +kernel), decide_eq_true (show wOf f p.1 = wOf f p.2 by omega), decide_eq_true rfl]
      rfl
    · rw [heavier_of (by omega)]
      unfold soB
      rw [if_pos rfl]
      exact decide_eq_true (by omega)
theorem true_good {ts : List Str} {p : List Str × List Str} (f : Str → Int) (ha : SumOf ts p.1) (hb : SumOf ts p.2) : GoodT ts (trueT f p) := by
  unfold trueT
  by_cases h : wordOf (wOf f p.1 - wOf f p.2) = "lighter"
  · rw [if_pos h]
    exact ⟨show ("heavier" : Str) ∈ words by decide +kernel, hb, ha⟩
  · rw [if_neg h]
    refine ⟨?_, ha, hb⟩
    show wordOf _ ∈ words
    by_cases e : wOf f p.1 - wOf f p.2 = 0
    · rw [alike_of e]
      decide +kernel
    · rw [heavier_of (by have z : ¬ wOf f p.1 - wOf f p.2 < 0 := fun y => h ((lighter_iff _).mpr y); omega)]
      decide +kernel
theorem all_pairs {S : List (List Str)} : ∀ {ys : List Da}, (∀ y ∈ ys, y ∈ (pairsF S).map pairD) → ∃ ps : List (List Str × List Str), ys = ps.map pairD ∧ ∀ p ∈ ps, p ∈ pairsF S
  | [], _ => ⟨[], rfl, fun _ h => by cases h⟩
  | y :: ys, h => by
    obtain ⟨b, rfl, hb⟩ := all_pairs (ys := ys) fun z hz => h z (List.mem_cons_of_mem _ hz)
    obtain ⟨p, hp, rfl⟩ := List.mem_map.mp (h y List.mem_cons_self)
    refine ⟨p :: b, rfl, fun s hs => ?_⟩
    rcases List.mem_cons.mp hs with e | e
    · rw [e]; exact hp
    · exact hb s e
theorem noL_pairs : ∀ ps : List (List Str × List Str), noLs (ps.map pairD) = true
  | [] => rfl
  | p :: ps => by
    rw [List.map_cons, noLs, noL_pairs ps, Bool.and_true]
    show noL (.tup [strsD p.1, strsD p.2]) = true
    rw [noL, noLs, noLs, noLs, noL_sum, noL_sum]
    rfl
/-! ### classes -/
/-- the class of one weight -/
def grpL (w : Str → Int) (S : List (List Str)) (n : Int) : List (List Str) := S.filter fun a => wtOf w a == n
def grpOf (w : Str → Int) (S : List (List Str)) (n : Int) : Da := .lst ((grpL w S n).map strsD)
theorem clsD_map (w : Str → Int) (S : List (List Str)) (ks : List Int) : clsD w S ks = ks.map (grpOf w S) := by
  unfold clsD clsL
  rw [List.map_map]
  rfl
theorem in_grp (G : List (List Str)) (a : List Str) : ((G.map strsD).any fun z => eqd z (strsD a)) = decide (a ∈ G) := by
  rw [List.any_map, Bool.eq_iff_iff, List.any_eq_true, decide_eq_true_eq]
  constructor
  · rintro ⟨b, hb, e⟩
    have e2 : decide (b = a) = true := by rw [← eqd_sum]; exact e
    rw [← of_decide_eq_true e2]
    exact hb
  · intro h
    exact ⟨a, h, by show eqd (strsD a) (strsD a) = true; rw [eqd_sum]; exact decide_eq_true rfl⟩
theorem mem_grp {w : Str → Int} {S : List (List Str)} {n : Int} {a : List Str} : a ∈ grpL w S n ↔ a ∈ S ∧ wtOf w a = n := by
  unfold grpL
  rw [List.mem_filter, beq_iff_eq]
theorem together {w : Str → Int} {S : List (List Str)} {ks : List Int} (N : Nums w S ks) {a b : List Str} (ha : a ∈ S) (hb : b ∈ S) : (!((ks.filter fun n => decide (a ∈ grpL w S n) && decide (b ∈ grpL w S n)).isEmpty)) = decide (wordOf (wOf w a - wOf w b) = "alike") := by
  rw [Bool.eq_iff_iff, Bool.not_eq_true', decide_eq_true_eq, alike_iff]
  have eq0 : wOf w a = wtOf w a ∧ wOf w b = wtOf w b := ⟨rfl, rfl⟩
  constructor
  · intro h
    cases e : ks.filter fun n => decide (a ∈ grpL w S n) && decide (b ∈ grpL w S n) with
    | nil => rw [e] at h; cases h
    | cons n ns =>
      have m : n ∈ ks.filter fun n => decide (a ∈ grpL w S n) && decide (b ∈ grpL w S n) := by rw [e]; exact List.mem_cons_self
      have z := (List.mem_filter.mp m).2
      rw [Bool.and_eq_true, decide_eq_true_eq, decide_eq_true_eq, mem_grp, mem_grp] at z
      rw [eq0.1, eq0.2, z.1.2, z.2.2]
      omega
  · intro h
    have m : wtOf w a ∈ ks.filter fun n => decide (a ∈ grpL w S n) && decide (b ∈ grpL w S n) := by
      refine List.mem_filter.mpr ⟨(N.mem _).mpr (List.mem_map.mpr ⟨a, ha, rfl⟩), ?_⟩
      rw [Bool.and_eq_true, decide_eq_true_eq, decide_eq_true_eq, mem_grp, mem_grp]
      exact ⟨⟨ha, rfl⟩, hb, by rw [eq0.1, eq0.2] at h; omega⟩
    cases e : ks.filter fun n => decide (a ∈ grpL w S n) && decide (b ∈ grpL w S n) with
    | nil => rw [e] at m; cases m
    | cons n ns => rfl
theorem grps_nd {w : Str → Int} {S : List (List Str)} {ks : List Int} (N : Nums w S ks) (nd : S.Nodup) : ((ks.map (grpL w S)).flatten).Nodup := by
  rw [← List.flatMap_def]
  refine List.pairwise_flatMap.mpr ⟨fun n _ => nd.sublist List.filter_sublist, N.pw.imp fun {m n} lt x hx y hy e => ?_⟩
  subst e
  have h1 := (mem_grp.mp hx).2
  have h2 := (mem_grp.mp hy).2
  omega
theorem grps_few {w : Str → Int} {S : List (List Str)} {ks : List Int} (N : Nums w S ks) (nd : S.Nodup) : ((ks.map (grpL w S)).flatten).length ≤ S.length := by
  refine (grps_nd N nd).length_le_of_subset fun x hx => ?_
  obtain ⟨l, hl, hx⟩ := List.mem_flatten.mp hx
  obtain ⟨n, _, rfl⟩ := List.mem_map.mp hl
  exact (mem_grp.mp hx).1
theorem sum_lens (Ls : List (List (List Str))) : ((Ls.map fun l => ((l.length : Nat) : Int))).sum = ((Ls.flatten.length : Nat) : Int) := by
  induction Ls with
  | nil => rfl
  | cons l Ls ih => rw [List.map_cons, List.sum_cons, ih, List.flatten_cons, List.length_append, Int.natCast_add]
/-! ### names exchanged, and back -/
theorem zip_names : ∀ (ts zs : List Str), ts.Nodup → ts.length ≤ zs.length → ∃ g : Str → Str, (ts.map Sum.inr : List Key).zip (zs.map Da.str) = (wD ts fun t => .str (g t)) ∧ ts.map g = zs.take ts.length
  | [], zs, _, _ => ⟨fun t => t, rfl, by rw [List.length_nil, List.take_zero]; rfl⟩
  | t :: ts, [], _, h => absurd h (Nat.not_succ_le_zero _)
  | t :: ts, z :: zs, nd, h => by
    obtain ⟨n1, n2⟩ := List.nodup_cons.mp nd
    obtain ⟨g, e1, e2⟩ := zip_names ts zs n2 (Nat.le_of_succ_le_succ h)
    have same : ∀ x ∈ ts, (if x = t then z else g x) = g x := fun x hx => if_neg fun (e : x = t) => n1 (by rw [← e]; exact hx)
    refine ⟨fun x => if x = t then z else g x, ?_, ?_⟩
    · rw [List.map_cons, List.map_cons, List.zip_cons_cons, e1]
      unfold wD
      rw [List.map_cons]
      congr 1
      · show ((Sum.inr t : Key), Da.str z) = ((Sum.inr t : Key), Da.str (if t = t then z else g t))
        rw [if_pos rfl]
      · exact List.map_congr_left fun x hx => by
          show ((Sum.inr x : Key), Da.str (g x)) = (Sum.inr x, Da.str (if x = t then z else g x))
          rw [same x hx]
    · rw [List.map_cons, if_pos rfl, List.length_cons, List.take_succ_cons, ← e2]
      congr 1
      exact List.map_congr_left same
/-- what undoes g among ts -/
theorem undo {β : Type} (g : Str → Str) (f : Str → β) (b : β) : ∀ ts : List Str, (ts.map g).Nodup → ∃ h : Str → β, ∀ t ∈ ts, h (g t) = f t
  | [], _ => ⟨fun _ => b, fun t h => nomatch h⟩
  | x :: ts, nd => by
    obtain ⟨n1, n2⟩ := List.nodup_cons.mp nd
    obtain ⟨h, e⟩ := undo g f b ts n2
    refine ⟨fun y => if y = g x then f x else h y, fun t ht => ?_⟩
    rcases List.mem_cons.mp ht with z | z
    · rw [z]; exact if_pos rfl
    · have ne : ¬ g t = g x := fun q => n1 (by rw [← q]; exact List.mem_map_of_mem z)
      exact (if_neg ne).trans (e t z)
theorem sum_perm {a b : List Int} (p : a.Perm b) : a.sum = b.sum := by
  induction p with
  | nil => rfl
  | cons x _ ih => rw [List.sum_cons, List.sum_cons, ih]
  | swap x y l => rw [List.sum_cons, List.sum_cons, List.sum_cons, List.sum_cons]; omega
  | trans _ _ h1 h2 => exact h1.trans h2
theorem wt_ren {g : Str → Str} {f f' : Str → Int} {ts a c : List Str} (he : ∀ t ∈ ts, f' (g t) = f t) (ha : ∀ x ∈ a, x ∈ ts) (p : c.Perm (a.map g)) : wOf f' c = wOf f a := by
  unfold wOf
  rw [sum_perm (p.map f'), List.map_map]
  exact congrArg List.sum (List.map_congr_left fun x hx => he x (ha x hx))
theorem ok_ren {g : Str → Str} {f f' : Str → Int} {ts : List Str} (he : ∀ t ∈ ts, f' (g t) = f t) : ∀ {tls tls' : List Tl}, Paired (RenT g) tls tls' → (∀ t ∈ tls, GoodT ts t) → tls.all (okT f) = true → tls'.all (okT f') = true
  | _, _, .nil, _, _ => rfl
  | t :: _, u :: _, .cons h q, hg, ha => by
    rw [List.all_cons, Bool.and_eq_true] at ha
    have gt := hg t List.mem_cons_self
    rw [List.all_cons, ok_ren he q (fun y hy => hg y (List.mem_cons_of_mem _ hy)) ha.2, Bool.and_true]
    have z := ha.1
    unfold okT at z ⊢
    rw [h.w, wt_ren he gt.a.mem h.a, wt_ren he gt.b.mem h.b]
    exact z
theorem back_sum {g k : Str → Str} {ts a c d : List Str} (he : ∀ t ∈ ts, k (g t) = t) (s : SumOf ts a) (p : c.Perm (a.map g)) (q : d.Perm (c.map k)) (so : sortedS d = true) : d = a := by
  refine sorted_uniq so s.srt (q.trans ((p.map k).trans ?_))
  rw [List.map_map]
  have e : a.map (k ∘ g) = a := by
    have z : a.map (k ∘ g) = a.map id := List.map_congr_left fun x hx => he x (s.mem x hx)
    rw [z, List.map_id]
  rw [e]
theorem back_all {g k : Str → Str} {ts : List Str} (he : ∀ t ∈ ts, k (g t) = t) : ∀ {tls tls' tls2 : List Tl}, Paired (RenT g) tls tls' → Paired (RenT k) tls' tls2 → (∀ t ∈ tls, GoodT ts t) → tls2 = tls
  | _, _, _, .nil, .nil, _ => rfl
  | t :: _, _, u :: _, .cons h q, .cons h2 q2, hg => by
    have gt := hg t List.mem_cons_self
    rw [back_all he q q2 fun y hy => hg y (List.mem_cons_of_mem _ hy)]
    have e1 := back_sum he gt.a h.a h2.a h2.sa
    have e2 := back_sum he gt.b h.b h2.b h2.sb
    have e3 := h2.w.trans h.w
    cases t
    cases u
    cases e1
    cases e2
    cases e3
    rfl
end K37
namespace K37
open PySem PySem.Spec PyProof.Rows L2 Pd
section
variable {C : Addr} {P : Program} {wd : World} {K : PySem.W.Frag} {mg : Str → Option Value} {base : Heap}
theorem ok_law {f fB : Addr} {fd fdB : FuncData} (F : Fun K "law" "law" sp_law f fd) (FB : Fun K "_law_bag" "_law_bag" s_bag fB fdB) (gB : mg "_law_bag" = some (.ref fB)) (bB : Binds K fdB ["_law_script"] []) (ma : mg "abs" = none) (T : Txt K mg C) :
    FnG P wd K mg base CX0 15 f fd ["_law_script"] (spLaw K) := by
  refine lawG (n := 14) (names := ["_law_turn", "_law_things_here", "_law_worths_here", "_law_every", "_law_told", "_law_k", "_law_some", "_law_pair_here", "_law_together", "_law_names", "_law_later", "_law_back", "_law_part", "_law_name"]) F scp_law rfl rfl ?_
  intro cdv A outer s0 H E hr hG
  refine ⟨_, ps_set (i := 1) scp_law.nd rfl (.inl rfl) (pe_callG (ok_bag FB ma) (hr.mono (by decide)) hG (by rfl) gB FB.kp bB .nil pass0 (pa_cons (pv 0) pa_nil)), fun w => (psd_cons (psd_for (pid_range T.m_range ped_int) (pg_name (i := 2) scp_law.nd rfl (Or.inl rfl)) (gd_name 2) (gName_mo 2)
    (psd_cons (psd_set (i := 3) (ped_f ((ok_things T).up (by decide)) hr hG (pad_cons (ped_var 1) (pad_cons (ped_f ((ok_take T).up (by decide)) hr hG (pad_cons (ped_var 1) (pad_cons ped_int pad_nil))) pad_nil))) scp_law.nd)
    (psd_cons (psd_set (i := 4) (ped_f ((ok_worths T).up (by decide)) hr hG (pad_cons (ped_var 1) (pad_cons (ped_var 3) (pad_cons ped_int (pad_cons ped_int pad_nil))))) scp_law.nd)
    (psd_cons (psd_set (i := 5) (ped_f ((okp_pairs T).up (by decide)) hr hG (pad_cons (ped_var 3) (pad_cons ped_int pad_nil))) scp_law.nd)
    (psd_cons (psd_set (i := 6) (ped_makeI ((okC_Told T).up (by decide)) hr hG (pad_cons (ped_var 3) (pad_cons (ped_lc (own := [("_law_pair_here", 9)]) scp_law.nd (pid_list (ped_slice (ped_f ((ok_mixed T).up (by decide)) hr hG (pad_cons (ped_var 1) (pad_cons (ped_var 5) pad_nil))) pod_none (pod_some ped_int))) (blkOk_by (own := [("_law_pair_here", 9)]) (N := Np_law) (sc := defScope sp_law) (by decide +kernel)) (gd_name 9) (gName_mo 9) (by decide) (fun _ _ _ _ _ => (pg_name (i := 9) scp_law.nd rfl (Or.inl rfl))) (fun _ _ _ _ _ => ptsd_nil) (fun _ _ _ _ _ => (ped_f ((ok_true_telling T).up (by decide)) hr hG (pad_cons (ped_var 4) (pad_cons (ped_var 9) pad_nil)))) s0) pad_nil))) scp_law.nd)
    (psd_cons (psd_if (PWd.pt (pwd_or (ptd_not (ptd_val (ped_f ((okp_fits T).up (by decide)) hr hG (pad_cons (ped_var 6) (pad_cons (ped_var 4) pad_nil))))) (pwd_or1 (ptd_neNil hr (ped_f ((okp_misfits T).up (by decide)) hr hG (pad_cons (ped_var 6) (pad_cons (ped_var 4) pad_nil))) (ped_lst pad_nil))))) (psd_one (psd_ret ped_bl)) psd_nil)
    (psd_cons (psd_for (pid_range T.m_range ped_int) (pg_name (i := 7) scp_law.nd rfl (Or.inl rfl)) (gd_name 7) (gName_mo 7)
    (psd_one (psd_if (ptd_not (ptd_val (ped_f ((ok_words_right T).up (by decide)) hr hG (pad_cons (ped_var 4) (pad_cons (ped_f ((ok_pair T).up (by decide)) hr hG (pad_cons (ped_var 1) (pad_cons (ped_var 3) pad_nil))) (pad_cons (ped_var 3) pad_nil)))))) (psd_one (psd_ret ped_bl)) psd_nil)))
    (psd_cons (psd_set (i := 8) (ped_f (((okp_classes T).dat).up (by decide)) hr hG (pad_cons (ped_var 4) (pad_cons ped_int pad_nil))) scp_law.nd)
    (psd_cons (psd_for (pid_list (ped_var 5)) (pg_name (i := 9) scp_law.nd rfl (Or.inr rfl)) (gd_name 9) (gName_mo 9)
    (psd_cons (psd_set (i := 10) (ped_neNil hr (ped_lc (own := [("_law_part", 14)]) scp_law.nd (pid_list (ped_var 8)) (blkOk_by (own := [("_law_part", 14)]) (N := Np_law) (sc := defScope sp_law) (by decide +kernel)) (gd_name 14) (gName_mo 14) (by decide) (fun _ _ _ _ _ => (pg_name (i := 14) scp_law.nd rfl (Or.inl rfl))) (fun _ _ _ _ _ => (ptsd_one (PWd.pt (pwd_and (ptd_inD hr (ped_at (fun _ _ => rfl) (ped_var 9) ped_int) (ped_var 14)) (pwd_and1 (ptd_inD hr (ped_at (fun _ _ => rfl) (ped_var 9) ped_int) (ped_var 14))))))) (fun _ _ _ _ _ => (ped_var 14)) s0) (ped_lst pad_nil)) scp_law.nd)
    (psd_one (psd_if (ptd_ne hr (ped_var 10) (ped_eq hr (ped_f ((okp_word_in T).up (by decide)) hr hG (pad_cons (ped_var 4) (pad_cons (ped_var 9) pad_nil))) ped_str)) (psd_one (psd_ret ped_bl)) psd_nil))))
    (psd_cons (psd_if (ptd_ne hr (ped_sumB T.m_sum (pad_cons (ped_lc (own := [("_law_part", 14)]) scp_law.nd (pid_list (ped_var 8)) (blkOk_by (own := [("_law_part", 14)]) (N := Np_law) (sc := defScope sp_law) (by decide +kernel)) (gd_name 14) (gName_mo 14) (by decide) (fun _ _ _ _ _ => (pg_name (i := 14) scp_law.nd rfl (Or.inl rfl))) (fun _ _ _ _ _ => ptsd_nil) (fun _ _ _ _ _ => (ped_len T.m_len (pad_cons (ped_var 14) pad_nil))) s0) pad_nil)) (ped_lenSetU hr T.m_len T.m_set (ped_sumL T.m_sum (pad_cons (ped_var 8) (pad_cons (ped_lst pad_nil) pad_nil))))) (psd_one (psd_ret ped_bl)) psd_nil)
    (psd_cons (psd_set (i := 11) (ped_dictZip T.m_dict T.m_zip (pad_cons (ped_var 3) (pad_cons (ped_f ((ok_mixed T).up (by decide)) hr hG (pad_cons (ped_var 1) (pad_cons (ped_lst (pad_cons ped_str (pad_cons ped_str (pad_cons ped_str (pad_cons ped_str (pad_cons ped_str (pad_cons ped_str pad_nil))))))) pad_nil))) pad_nil))) scp_law.nd)
    (psd_cons (psd_set (i := 12) (ped_f ((okp_renamed T).up (by decide)) hr hG (pad_cons (ped_var 6) (pad_cons (ped_var 11) pad_nil))) scp_law.nd)
    (psd_cons (psd_if (PWd.pt (pwd_or (ptd_not (ptd_val (ped_f ((okp_fits T).up (by decide)) hr hG (pad_cons (ped_var 12) (pad_cons (ped_f ((ok_led T).up (by decide)) hr hG (pad_cons (ped_var 4) (pad_cons (ped_var 11) pad_nil))) pad_nil))))) (pwd_or1 (ptd_ne hr (ped_lenO ((okS_len T).up (by decide)) hr hG T.m_len (ped_var 12)) (ped_lenO ((okS_len T).up (by decide)) hr hG T.m_len (ped_var 6)))))) (psd_one (psd_ret ped_bl)) psd_nil)
    (psd_cons (psd_set (i := 13) (ped_dict2 T.m_dict (pad_cons (ped_lock (i := 11) (j := 11) fun w' _ => (ped_lc (own := [("_law_name", 15)]) scp_law.nd (pid_frz (ped_var 11)) (blkOk_by (own := [("_law_name", 15)]) (N := Np_law) (sc := defScope sp_law) (by decide +kernel)) (gd_name 15) (gName_mo 15) (by decide) (fun _ _ _ _ _ => (pg_name (i := 15) scp_law.nd rfl (Or.inl rfl))) (fun _ _ _ _ _ => ptsd_nil) (fun _ _ _ _ _ => (ped_tup (pad_cons (ped_dgetF hr (ped_var 11) (ped_var 15)) (pad_cons (ped_var 15) pad_nil)))) s0)) pad_nil)) scp_law.nd)
    (psd_one (psd_if (ptd_neO K ((okS_eq T).up (by decide)) hr hG T.cl T.eqf (ped_f ((okp_renamed T).up (by decide)) hr hG (pad_cons (ped_var 12) (pad_cons (ped_var 13) pad_nil))) (ped_var 6)) (psd_one (psd_ret ped_bl)) psd_nil))))))))))))))))
    (psd_one (psd_ret ped_bl))), ?_⟩
  refine ⟨2, rfl, by decide, by decide, ?_⟩
  refine forD_run (fun _ r => ∃ s2 s3 s4 s5 s6 s7 s8 s9 s10 s11 s12 s13 s14 s15, r = [.no, .dat .bag, s2, s3, s4, s5, s6, s7, s8, s9, s10, s11, s12, s13, s14, s15]) ⟨_, _, _, _, _, _, _, _, _, _, _, _, _, _, rfl⟩ ?_ ?_
  · rintro r ⟨s2, s3, s4, s5, s6, s7, s8, s9, s10, s11, s12, s13, s14, s15, rfl⟩
    exact rfl
  · rintro i d r nx hd ⟨s2, s3, s4, s5, s6, s7, s8, s9, s10, s11, s12, s13, s14, s15, rfl⟩ kk
    refine ⟨_, rfl, _, rfl, _, rfl, by decide, by decide, fun m m0 (m1 : m < 6) => ?_⟩
    obtain ⟨m', rfl⟩ := Int.eq_ofNat_of_zero_le m0
    refine ⟨m', rfl, by omega, fun ts g hlm => ?_⟩
    have hl5 : ts.length ≤ 5 := by omega
    have hl6 : ts.length ≤ 6 := by omega
    refine ⟨_, rfl, _, rfl, ts, 0, 6, rfl, g.nd, by omega, by decide, by decide, fun f hf => ?_⟩
    refine ⟨_, rfl, ts, 2, rfl, g.asc, by omega, by decide, ?_⟩
    -- the Told
    have few := sums_15 g hl5
    have sumsOf : ∀ a ∈ sumsF ts 2, SumOf ts a := fun a h => sumsF_sum (by decide) h
    refine ⟨_, rfl, ?_⟩
    refine ⟨_, rfl, _, rfl, (pairsF (sumsF ts 2)).map pairD, rfl, noL_pairs _, by rw [List.length_map]; have := pairs_few few; omega, fun ys pm => ?_⟩
    obtain ⟨ps, rfl, hps⟩ := all_pairs fun y hy => pm.mem_iff.mp hy
    refine ⟨6, rfl, _, rfl, ?_⟩
    have cut : cutD (ps.map pairD) none (some 6) = (ps.take 6).map pairD := by
      rw [show (6 : Int) = ((6 : Nat) : Int) from rfl, cutD_to, List.map_take]
    show lcD _ _ _ _ _ _ (cutD (ps.map pairD) none (some 6)) _
    rw [cut]
    have hp6 : ∀ p ∈ ps.take 6, SumOf ts p.1 ∧ SumOf ts p.2 := fun p hp => by
      have z := pairsF_in (hps p (List.mem_of_mem_take hp))
      exact ⟨sumsOf _ z.1, sumsOf _ z.2⟩
    have l6 : (ps.take 6).length ≤ 6 := by rw [List.length_take]; omega
    generalize ps.take 6 = ps6 at hp6 l6 ⊢
    refine lcD_mapM pairD (fun p => tlD (trueT f p)) ps6 (by omega) (fun p hp R hR => ?_) ?_
    · obtain ⟨sa, sb⟩ := hp6 p hp
      have hR' : R (tlD (trueT f p)) := hR
      unfold trueT at hR'
      refine ⟨_, rfl, _, rfl, ts, f, p.1, p.2, rfl, sa.mem, sb.mem, Nat.le_trans sa.len (by decide), Nat.le_trans sb.len (by decide), fun y => ?_, fun y => ?_⟩
      · rw [if_pos y] at hR'
        exact hR'
      · rw [if_neg y] at hR'
        exact hR'
    have tls_eq : ps6.map (fun p => tlD (trueT f p)) = (ps6.map (trueT f)).map tlD := by rw [List.map_map]; rfl
    rw [tls_eq]
    have hg : ∀ t ∈ ps6.map (trueT f), GoodT ts t := fun t ht => by
      obtain ⟨p, hp, rfl⟩ := List.mem_map.mp ht
      exact true_good f (hp6 p hp).1 (hp6 p hp).2
    have hok : (ps6.map (trueT f)).all (okT f) = true := by
      rw [List.all_map, List.all_eq_true]
      exact fun p _ => true_ok f p
    have hl : (ps6.map (trueT f)).length ≤ 63 := by rw [List.length_map]; omega
    generalize ps6.map (trueT f) = tls at hg hok hl ⊢
    refine ⟨ts, tls, _, rfl, .inl rfl, g, hl6, hl, hg, noLf_told _ _, ?_⟩
    -- it fits
    refine ⟨_, rfl, _, rfl, ts, tls, ts, f, rfl, .refl _, hl6, hl, hg, _, rfl, ?_⟩
    rw [hok]
    refine (if_neg (by decide)).mpr ?_
    refine ⟨_, rfl, _, rfl, ts, tls, ts, f, rfl, .refl _, hl6, hl, hg, ?_⟩
    refine ⟨(by show 0 ≤ sizeLine; decide), _, rfl, rfl, _, rfl, ?_⟩
    refine (if_neg (by show ¬ (!((misI f tls).map fun i : Nat => Da.int (i : Nat)).isEmpty) = true; rw [List.isEmpty_map, misI_nil, hok]; decide)).mpr ?_
    -- eight pairs
    refine ⟨8, rfl, by decide, by decide, ?_⟩
    refine forD_run (fun _ r => ∃ s7, r = [.no, .dat .bag, .dat d, .dat (strsD ts), .dat (wtD ts f), .dat (.lst ((pairsF (sumsF ts 2)).map pairD)), .dat (toldD K C ts tls), s7, s8, s9, s10, s11, s12, s13, s14, s15]) ⟨_, rfl⟩ ?_ ?_
    · rintro r ⟨s7', rfl⟩
      refine ⟨_, rfl, ts, ts, f, 2, rfl, .refl _, g.srt, g.nd, g.asc, hl6, by decide, fun ks N => ?_⟩
      rw [clsD_map]
      have snd := sumsF_nd g.nd 2
      have lks : ks.length ≤ 15 := by
        have nd : ks.Nodup := N.pw.imp fun {a b} (h : a < b) => (by omega : a ≠ b)
        have z := nd.length_le_of_subset fun k hk => (N.mem k).mp hk
        rw [List.length_map] at z
        omega
      have shpS : ∀ a ∈ sumsF ts 2, shp (strsD a) = true := fun a h => (sz_sum g (sumsOf a h)).shp (by decide)
      have shpG : ∀ n, shp (grpOf f (sumsF ts 2) n) = true := fun n => by
        refine (sz_lst (ds := (grpL f (sumsF ts 2) n).map strsD) (n := 1) (c := 400) fun d hd => ?_).shp (by decide)
        obtain ⟨a, ha, rfl⟩ := List.mem_map.mp hd
        exact sz_sum g (sumsOf a (mem_grp.mp ha).1)
      -- each pair
      refine ⟨_, rfl, _, rfl, ?_⟩
      refine forD_run (fun _ r => ∃ s9 s10 s14, r = [.no, .dat .bag, .dat d, .dat (strsD ts), .dat (wtD ts f), .dat (.lst ((pairsF (sumsF ts 2)).map pairD)), .dat (toldD K C ts tls), s7', .dat (.lst (ks.map (grpOf f (sumsF ts 2)))), s9, s10, s11, s12, s13, s14, s15]) ⟨_, _, _, rfl⟩ ?_ ?_
      · rintro r ⟨s9', s10', s14', rfl⟩
        -- how many
        have flat : ((ks.map fun n => (grpL f (sumsF ts 2) n).map strsD).flatten) = ((ks.map (grpL f (sumsF ts 2))).flatten).map strsD := by
          rw [List.map_flatten, List.map_map]
          rfl
        have gfew := grps_few N snd
        refine ⟨_, rfl, _, rfl, ?_⟩
        refine lcD_mapM (grpOf f (sumsF ts 2)) (fun n => Da.int ((((grpL f (sumsF ts 2) n).map strsD).length : Nat) : Int)) ks (by omega) (fun n hn R hR => ⟨_, rfl, _, rfl, .inl ⟨_, rfl, hR⟩⟩) ?_
        refine ⟨_, ks.map fun n => ((((grpL f (sumsF ts 2) n).map strsD).length : Nat) : Int), rfl, by show some _ = some _; rw [List.map_map]; rfl, ?_⟩
        refine ⟨_, rfl, (by show 0 ≤ sizeLine; decide), ks.map fun n => (grpL f (sumsF ts 2) n).map strsD, by rw [List.map_map]; rfl, by rw [flat, List.length_map, sizeLine_eq]; omega, ?_⟩
        rw [flat]
        refine ⟨_, rfl, grps_nd N snd, by omega, shp_int _, shp_int _, _, rfl, ?_⟩
        have esum : (ks.map fun n => ((((grpL f (sumsF ts 2) n).map strsD).length : Nat) : Int)).sum = ((((ks.map (grpL f (sumsF ts 2))).flatten).length : Nat) : Int) := by
          rw [← sum_lens, List.map_map]
          refine congrArg List.sum (List.map_congr_left fun n _ => ?_)
          rw [List.length_map]
          rfl
        refine (if_neg ?_).mpr ?_
        · show ¬ (!eqd (.int _) (.int _)) = true
          rw [esum, eqd_int, beq_self_eq_true]
          decide
        -- other names
        refine ⟨_, rfl, ?_⟩
        refine ⟨_, rfl, (by show 6 ≤ sizeLine; decide), (["xa", "xb", "y", "z", "a", "mm"] : List Str).map .str, rfl, (by decide +kernel), (by decide), fun ys pz => ?_⟩
        obtain ⟨zs, rfl, pzs⟩ : ∃ zs : List Str, ys = zs.map .str ∧ zs.Perm ["xa", "xb", "y", "z", "a", "mm"] := by
          refine ⟨ys.map strOf, ?_, ?_⟩
          · rw [List.map_map]
            have z : ∀ y ∈ ys, (Da.str ∘ strOf) y = id y := fun y hy => by
              obtain ⟨x, _, rfl⟩ := List.mem_map.mp (pz.mem_iff.mp hy)
              rfl
            rw [List.map_congr_left z, List.map_id]
          · have z := pz.map strOf
            rw [strOf_map] at z
            exact z
        have lz : zs.length = 6 := pzs.length_eq
        obtain ⟨gn, e1, e2⟩ := zip_names ts zs g.nd (by omega)
        have ndg : (ts.map gn).Nodup := by
          rw [e2]
          exact (pzs.nodup_iff.mpr (by decide +kernel)).sublist (List.take_sublist _ _)
        have names : ∀ x ∈ (["xa", "xb", "y", "z", "a", "mm"] : List Str), nameS x = true := by decide +kernel
        have nmg : ∀ t ∈ ts, nameS (gn t) = true := fun t ht => by
          have z : gn t ∈ zs.take ts.length := by rw [← e2]; exact List.mem_map_of_mem ht
          exact names _ (pzs.mem_iff.mp (List.mem_of_mem_take z))
        refine ⟨strsD ts, ts.map Sum.inr, zs.map .str, rfl, by show some (ts.map Da.str) = _; rw [List.map_map]; rfl, ?_⟩
        rw [e1, mergeD_w g.nd]
        refine ⟨_, rfl, _, rfl, ts, tls, ts, gn, rfl, fun t h => h, ndg, nmg, hl6, hl, hg, fun ts' tls' pt so hp => ?_⟩
        have hl' : tls'.length = tls.length := (Paired.length hp).symm
        have lt' : ts'.length = ts.length := by rw [pt.length_eq, List.length_map]
        have hg' := ren_all pt hp hg
        obtain ⟨f2, he⟩ := undo gn f 0 ts ndg
        obtain ⟨kb, hk⟩ := undo gn (fun t => t) "" ts ndg
        have eled : mergeD [] (ts.map fun t => ((Sum.inr (gn t) : Key), Da.int (f t))) = wD (ts.map gn) fun y => .int (f2 y) := by
          rw [← mergeD_w ndg]
          congr 1
          unfold wD
          rw [List.map_map]
          refine List.map_congr_left fun t ht => ?_
          show ((Sum.inr (gn t) : Key), Da.int (f t)) = (Sum.inr (gn t), Da.int (f2 (gn t)))
          rw [he t ht]
        have ebk : mergeD [] (ts.map fun t => ((Sum.inr (gn t) : Key), Da.str t)) = wD (ts.map gn) fun y => .str (kb y) := by
          rw [← mergeD_w ndg]
          congr 1
          unfold wD
          rw [List.map_map]
          refine List.map_congr_left fun t ht => ?_
          show ((Sum.inr (gn t) : Key), Da.str t) = (Sum.inr (gn t), Da.str (kb (gn t)))
          rw [hk t ht]
        refine ⟨_, rfl, _, rfl, _, rfl, ts, ts, f, gn, rfl, fun t h => h, by omega, ?_⟩
        rw [eled]
        refine ⟨ts', tls', ts.map gn, f2, rfl, pt.symm, by omega, by omega, hg', _, rfl, ?_⟩
        rw [ok_ren he hp hg hok]
        refine (if_neg (by decide)).mpr ?_
        refine ⟨_, rfl, ⟨_, rfl⟩, ts', tls', rfl, by omega, _, rfl, by omega, _, rfl, ⟨_, rfl⟩, ts, tls, rfl, hl, _, rfl, by omega, shp_int _, shp_int _, _, rfl, ?_⟩
        refine (if_neg ?_).mpr ?_
        · show ¬ (!eqd (.int _) (.int _)) = true
          rw [hl', eqd_int, beq_self_eq_true]
          decide
        -- and back
        refine ⟨_, _, rfl, rfl, grd_str ts gn, grd_str ts gn, fun b => ?_⟩
        refine ⟨_, rfl, _, rfl, ?_⟩
        have ek : ((wD ts fun t => Da.str (gn t)).map fun kv => kD kv.1) = ts.map Da.str := by unfold wD; rw [List.map_map]; rfl
        rw [ek]
        refine lcD_mapM Da.str (fun t => Da.tup [.str (gn t), .str t]) ts (by omega) (fun t ht R hR => ?_) ?_
        · have v1 : valD (wD ts fun t => Da.str (gn t)) (.inr t) = some (.str (gn t)) := valD_w ht
          exact ⟨_, rfl, _, rfl, _, .inr t, _, .inr rfl, rfl, v1, _, rfl, (by show 2 ≤ sizeLine; decide), hR⟩
        refine ⟨?_, ts.map fun t => (.inr (gn t), .str t), _, rfl, ?_, ?_⟩
        · show nofixs _ = true
          refine nofixs_all fun d hd => ?_
          obtain ⟨t, _, rfl⟩ := List.mem_map.mp hd
          rfl
        · have key : ∀ us : List Str, Paired (fun y (kv : Key × Da) => itemsOf y = some [kD kv.1, kv.2]) (us.map fun t => Da.tup [.str (gn t), .str t]) (us.map fun t => ((Sum.inr (gn t) : Key), Da.str t)) := by
            intro us
            induction us with
            | nil => exact .nil
            | cons t us ih => exact .cons rfl ih
          exact key ts
        rw [ebk]
        have e3 : (ts.map gn).map kb = ts := by
          rw [List.map_map]
          have z : ts.map (kb ∘ gn) = ts.map id := List.map_congr_left fun x hx => hk x hx
          rw [z, List.map_id]
        have pb : (ts'.map kb).Perm ts := by
          have z := pt.map kb
          rw [e3] at z
          exact z
        refine ⟨_, rfl, _, rfl, ts', tls', ts.map gn, kb, rfl, fun t h => pt.mem_iff.mp h, pb.nodup_iff.mpr g.nd, fun t h => ?_, by omega, by omega, hg', fun ts2 tls2 p2 so2 hp2 => ?_⟩
        · exact g.nm _ (pb.mem_iff.mp (List.mem_map_of_mem h))
        have e4 : ts2 = ts := sorted_uniq so2 g.srt (p2.trans pb)
        have e5 : tls2 = tls := back_all hk hp hp2 hg
        subst e4 e5
        refine ⟨_, rfl, ⟨_, rfl⟩, .inl ⟨_, rfl⟩, ts2, tls2, _, rfl, g, hg, .inl ⟨ts2, tls2, rfl, g, hg, _, rfl, _, rfl, ?_⟩⟩
        refine (if_neg ?_).mpr (kk _ ⟨_, _, _, _, _, _, _, _, _, _, _, _, _, _, rfl⟩)
        show ¬ (!(decide (ts2 = ts2) && eqTl tls2 tls2)) = true
        rw [eqTl_refl g hg, decide_eq_true rfl]
        decide
      · rintro i2 d2 r nx2 hd2 ⟨s9', s10', s14', rfl⟩ k2
        rw [List.getElem?_map] at hd2
        obtain ⟨p, hp, rfl⟩ := Option.map_eq_some_iff.mp hd2
        have hpS := pairsF_in (List.mem_of_getElem? hp)
        have sa := sumsOf _ hpS.1
        have sb := sumsOf _ hpS.2
        refine ⟨_, rfl, _, rfl, ?_⟩
        refine lcD_selM (grpOf f (sumsF ts 2)) (fun n => decide (p.1 ∈ grpL f (sumsF ts 2) n) && decide (p.2 ∈ grpL f (sumsF ts 2) n)) (grpOf f (sumsF ts 2)) ks (by omega) (fun n hn P1 hy hn' => ?_) ?_
        · refine ⟨_, rfl, _, rfl, _, rfl, _, rfl, shpS _ hpS.1, shpG n, _, rfl, ?_⟩
          rw [if_neg Bool.false_ne_true, in_grp]
          cases e1 : decide (p.1 ∈ grpL f (sumsF ts 2) n) with
          | false => exact (if_neg Bool.false_ne_true).mpr ((if_neg Bool.false_ne_true).mpr (hn' (by rw [e1]; rfl)))
          | true =>
            refine (if_pos rfl).mpr ⟨_, rfl, _, rfl, _, rfl, _, rfl, shpS _ hpS.2, shpG n, _, rfl, ?_⟩
            rw [if_neg Bool.false_ne_true, in_grp]
            cases e2 : decide (p.2 ∈ grpL f (sumsF ts 2) n) with
            | false => exact (if_neg Bool.false_ne_true).mpr (hn' (by rw [e1, e2]; rfl))
            | true => exact (if_pos rfl).mpr ⟨_, rfl, hy (by rw [e1, e2]; rfl)⟩
        refine ⟨(by show 0 ≤ sizeLine; decide), _, rfl, rfl, ?_⟩
        refine ⟨_, rfl, _, rfl, _, rfl, ts, f, p.1, p.2, rfl, sa.mem, sb.mem, Nat.le_trans sa.len (by decide), Nat.le_trans sb.len (by decide), ?_⟩
        refine ⟨word_shp _, by decide +kernel, shp_bl _, shp_bl _, _, rfl, ?_⟩
        have tg := together N hpS.1 hpS.2
        refine (if_neg ?_).mpr (k2 _ ⟨_, _, _, rfl⟩)
        show ¬ (!eqd (.bl (!((ks.filter _).map _).isEmpty)) (.bl (eqd (.str _) (.str "alike")))) = true
        rw [List.isEmpty_map, tg, Pd.eqd_bl, eqd_str]
        show ¬ (!(decide (wordOf (wOf f p.1 - wOf f p.2) = "alike") == decide (wordOf (wOf f p.1 - wOf f p.2) = "alike"))) = true
        rw [beq_self_eq_true]
        decide
    · rintro i2 d2 r nx2 hd2 ⟨s7', rfl⟩ k2
      refine ⟨_, rfl, _, rfl, _, rfl, ts, rfl, g.asc, by omega, fun a b sa sb => ?_⟩
      refine ⟨_, rfl, ts, f, a, b, rfl, g, hl6, sa, sb, _, rfl, ?_⟩
      exact (if_neg (by decide)).mpr (k2 _ ⟨_, rfl⟩)
end
end K37
namespace K37
open PySem PySem.Spec PyProof.Rows L2 Pd
theorem all_mk {l : PySem.W.OpenLaw} {w : World} {K : PySem.W.Frag} {h : Heap} {mg : Str → Option Value} {fa C f_take fp_is_within fp_is_integer fp_is_name fp_are_names fp_are_things fp_is_sum fp_is_pair fp_is_telling fp_sum_of fp_sums fp_pairs fp_stands_in fp_is_telling_of fp_are_tellings fp_in_names fp_renamed fp_are_worths fp_worth fp_word_in fp_classes fp_is_so fp_misfits fp_fits f_mixed f_one f_things f_sum f_pair f_worths f_true_telling f_words_right f_led fo_init fo_things po_things fo_iter fo_eq fo_len f_bag fp_law : Addr} (X : K.In h) (G : h.Ns mainGlobals mg) (hfa : mg "law" = some (.ref fa))
    {od_take an_take : Option Addr} {sl_take : Array (Option Value)} {oc_take kV_take dc_take pm_take cd_take ct_take : Value}
    {odp_is_within anp_is_within : Option Addr} {slp_is_within : Array (Option Value)} {ocp_is_within kVp_is_within dcp_is_within pmp_is_within cdp_is_within ctp_is_within : Value}
    {odp_is_integer anp_is_integer : Option Addr} {slp_is_integer : Array (Option Value)} {ocp_is_integer kVp_is_integer dcp_is_integer pmp_is_integer cdp_is_integer ctp_is_integer : Value}
    {odp_is_name anp_is_name : Option Addr} {slp_is_name : Array (Option Value)} {ocp_is_name kVp_is_name dcp_is_name pmp_is_name cdp_is_name ctp_is_name : Value}
    {odp_are_names anp_are_names : Option Addr} {slp_are_names : Array (Option Value)} {ocp_are_names kVp_are_names dcp_are_names pmp_are_names cdp_are_names ctp_are_names : Value}
    {odp_are_things anp_are_things : Option Addr} {slp_are_things : Array (Option Value)} {ocp_are_things kVp_are_things dcp_are_things pmp_are_things cdp_are_things ctp_are_things : Value}
    {odp_is_sum anp_is_sum : Option Addr} {slp_is_sum : Array (Option Value)} {ocp_is_sum kVp_is_sum dcp_is_sum pmp_is_sum cdp_is_sum ctp_is_sum : Value}
    {odp_is_pair anp_is_pair : Option Addr} {slp_is_pair : Array (Option Value)} {ocp_is_pair kVp_is_pair dcp_is_pair pmp_is_pair cdp_is_pair ctp_is_pair : Value}
    {odp_is_telling anp_is_telling : Option Addr} {slp_is_telling : Array (Option Value)} {ocp_is_telling kVp_is_telling dcp_is_telling pmp_is_telling cdp_is_telling ctp_is_telling : Value}
    {odp_sum_of anp_sum_of : Option Addr} {slp_sum_of : Array (Option Value)} {ocp_sum_of kVp_sum_of dcp_sum_of pmp_sum_of cdp_sum_of ctp_sum_of : Value}
    {odp_sums anp_sums : Option Addr} {slp_sums : Array (Option Value)} {ocp_sums kVp_sums dcp_sums pmp_sums cdp_sums ctp_sums : Value}
    {odp_pairs anp_pairs : Option Addr} {slp_pairs : Array (Option Value)} {ocp_pairs kVp_pairs dcp_pairs pmp_pairs cdp_pairs ctp_pairs : Value}
    {odp_stands_in anp_stands_in : Option Addr} {slp_stands_in : Array (Option Value)} {ocp_stands_in kVp_stands_in dcp_stands_in pmp_stands_in cdp_stands_in ctp_stands_in : Value}
    {odp_is_telling_of anp_is_telling_of : Option Addr} {slp_is_telling_of : Array (Option Value)} {ocp_is_telling_of kVp_is_telling_of dcp_is_telling_of pmp_is_telling_of cdp_is_telling_of ctp_is_telling_of : Value}
    {odp_are_tellings anp_are_tellings : Option Addr} {slp_are_tellings : Array (Option Value)} {ocp_are_tellings kVp_are_tellings dcp_are_tellings pmp_are_tellings cdp_are_tellings ctp_are_tellings : Value}
    {odp_in_names anp_in_names : Option Addr} {slp_in_names : Array (Option Value)} {ocp_in_names kVp_in_names dcp_in_names pmp_in_names cdp_in_names ctp_in_names : Value}
    {odp_renamed anp_renamed : Option Addr} {slp_renamed : Array (Option Value)} {ocp_renamed kVp_renamed dcp_renamed pmp_renamed cdp_renamed ctp_renamed : Value}
    {odp_are_worths anp_are_worths : Option Addr} {slp_are_worths : Array (Option Value)} {ocp_are_worths kVp_are_worths dcp_are_worths pmp_are_worths cdp_are_worths ctp_are_worths : Value}
    {odp_worth anp_worth : Option Addr} {slp_worth : Array (Option Value)} {ocp_worth kVp_worth dcp_worth pmp_worth cdp_worth ctp_worth : Value}
    {odp_word_in anp_word_in : Option Addr} {slp_word_in : Array (Option Value)} {ocp_word_in kVp_word_in dcp_word_in pmp_word_in cdp_word_in ctp_word_in : Value}
    {odp_classes anp_classes : Option Addr} {slp_classes : Array (Option Value)} {ocp_classes kVp_classes dcp_classes pmp_classes cdp_classes ctp_classes : Value}
    {odp_is_so anp_is_so : Option Addr} {slp_is_so : Array (Option Value)} {ocp_is_so kVp_is_so dcp_is_so pmp_is_so cdp_is_so ctp_is_so : Value}
    {odp_misfits anp_misfits : Option Addr} {slp_misfits : Array (Option Value)} {ocp_misfits kVp_misfits dcp_misfits pmp_misfits cdp_misfits ctp_misfits : Value}
    {odp_fits anp_fits : Option Addr} {slp_fits : Array (Option Value)} {ocp_fits kVp_fits dcp_fits pmp_fits cdp_fits ctp_fits : Value}
    {od_mixed an_mixed : Option Addr} {sl_mixed : Array (Option Value)} {oc_mixed kV_mixed dc_mixed pm_mixed cd_mixed ct_mixed : Value}
    {od_one an_one : Option Addr} {sl_one : Array (Option Value)} {oc_one kV_one dc_one pm_one cd_one ct_one : Value}
    {od_things an_things : Option Addr} {sl_things : Array (Option Value)} {oc_things kV_things dc_things pm_things cd_things ct_things : Value}
    {od_sum an_sum : Option Addr} {sl_sum : Array (Option Value)} {oc_sum kV_sum dc_sum pm_sum cd_sum ct_sum : Value}
    {od_pair an_pair : Option Addr} {sl_pair : Array (Option Value)} {oc_pair kV_pair dc_pair pm_pair cd_pair ct_pair : Value}
    {od_worths an_worths : Option Addr} {sl_worths : Array (Option Value)} {oc_worths kV_worths dc_worths pm_worths cd_worths ct_worths : Value}
    {od_true_telling an_true_telling : Option Addr} {sl_true_telling : Array (Option Value)} {oc_true_telling kV_true_telling dc_true_telling pm_true_telling cd_true_telling ct_true_telling : Value}
    {od_words_right an_words_right : Option Addr} {sl_words_right : Array (Option Value)} {oc_words_right kV_words_right dc_words_right pm_words_right cd_words_right ct_words_right : Value}
    {od_led an_led : Option Addr} {sl_led : Array (Option Value)} {oc_led kV_led dc_led pm_led cd_led ct_led : Value}
    {odo_init ano_init : Option Addr} {slo_init : Array (Option Value)} {oco_init kVo_init dco_init pmo_init cdo_init cto_init : Value}
    {odo_things ano_things : Option Addr} {slo_things : Array (Option Value)} {oco_things kVo_things dco_things pmo_things cdo_things cto_things : Value}
    {ro_things : List Value}
    {odo_iter ano_iter : Option Addr} {slo_iter : Array (Option Value)} {oco_iter kVo_iter dco_iter pmo_iter cdo_iter cto_iter : Value}
    {odo_eq ano_eq : Option Addr} {slo_eq : Array (Option Value)} {oco_eq kVo_eq dco_eq pmo_eq cdo_eq cto_eq : Value}
    {odo_len ano_len : Option Addr} {slo_len : Array (Option Value)} {oco_len kVo_len dco_len pmo_len cdo_len cto_len : Value}
    {t_MOST_THINGS : Tok}
    {t_MOST_NAMES : Tok}
    {t_MOST_LETTERS : Tok}
    {u0_WORDS u1_WORDS u2_WORDS : Tok} {aw_WORDS : Addr} {nw_WORDS : Nat} {slw_WORDS : Array (Option Value)}
    {od_bag an_bag : Option Addr} {sl_bag : Array (Option Value)} {oc_bag kV_bag dc_bag pm_bag cd_bag ct_bag : Value}
    {odp_law anp_law : Option Addr} {slp_law : Array (Option Value)} {ocp_law kVp_law dcp_law pmp_law cdp_law ctp_law : Value}
    (l_take : K.lookup f_take = some ⟨oc_take, od_take, .func (PySem.W.fnOf "_law_take" "_law_take" (defArgs s_take) (defBody s_take) (defScope s_take) .none kV_take dc_take pm_take an_take cd_take ct_take), sl_take⟩)
    (c_take : PySem.W.codeIn K cd_take "_law_take" = true)
    (k_take : PySem.W.keepIn K (.ref f_take) = true)
    (a_take : PySem.W.nsIn K mainGlobals "_law_take" = some (some (.ref f_take)))
    (lp_is_within : K.lookup fp_is_within = some ⟨ocp_is_within, odp_is_within, .func (PySem.W.fnOf "is_within" "is_within" (defArgs sp_is_within) (defBody sp_is_within) (defScope sp_is_within) .none kVp_is_within dcp_is_within pmp_is_within anp_is_within cdp_is_within ctp_is_within), slp_is_within⟩)
    (cp_is_within : PySem.W.codeIn K cdp_is_within "is_within" = true)
    (kp_is_within : PySem.W.keepIn K (.ref fp_is_within) = true)
    (ap_is_within : PySem.W.nsIn K mainGlobals "is_within" = some (some (.ref fp_is_within)))
    (lp_is_integer : K.lookup fp_is_integer = some ⟨ocp_is_integer, odp_is_integer, .func (PySem.W.fnOf "is_integer" "is_integer" (defArgs sp_is_integer) (defBody sp_is_integer) (defScope sp_is_integer) .none kVp_is_integer dcp_is_integer pmp_is_integer anp_is_integer cdp_is_integer ctp_is_integer), slp_is_integer⟩)
    (cp_is_integer : PySem.W.codeIn K cdp_is_integer "is_integer" = true)
    (kp_is_integer : PySem.W.keepIn K (.ref fp_is_integer) = true)
    (ap_is_integer : PySem.W.nsIn K mainGlobals "is_integer" = some (some (.ref fp_is_integer)))
    (lp_is_name : K.lookup fp_is_name = some ⟨ocp_is_name, odp_is_name, .func (PySem.W.fnOf "is_name" "is_name" (defArgs sp_is_name) (defBody sp_is_name) (defScope sp_is_name) .none kVp_is_name dcp_is_name pmp_is_name anp_is_name cdp_is_name ctp_is_name), slp_is_name⟩)
    (cp_is_name : PySem.W.codeIn K cdp_is_name "is_name" = true)
    (kp_is_name : PySem.W.keepIn K (.ref fp_is_name) = true)
    (ap_is_name : PySem.W.nsIn K mainGlobals "is_name" = some (some (.ref fp_is_name)))
    (lp_are_names : K.lookup fp_are_names = some ⟨ocp_are_names, odp_are_names, .func (PySem.W.fnOf "_are_names" "_are_names" (defArgs sp_are_names) (defBody sp_are_names) (defScope sp_are_names) .none kVp_are_names dcp_are_names pmp_are_names anp_are_names cdp_are_names ctp_are_names), slp_are_names⟩)
    (cp_are_names : PySem.W.codeIn K cdp_are_names "_are_names" = true)
    (kp_are_names : PySem.W.keepIn K (.ref fp_are_names) = true)
    (ap_are_names : PySem.W.nsIn K mainGlobals "_are_names" = some (some (.ref fp_are_names)))
    (lp_are_things : K.lookup fp_are_things = some ⟨ocp_are_things, odp_are_things, .func (PySem.W.fnOf "are_things" "are_things" (defArgs sp_are_things) (defBody sp_are_things) (defScope sp_are_things) .none kVp_are_things dcp_are_things pmp_are_things anp_are_things cdp_are_things ctp_are_things), slp_are_things⟩)
    (cp_are_things : PySem.W.codeIn K cdp_are_things "are_things" = true)
    (kp_are_things : PySem.W.keepIn K (.ref fp_are_things) = true)
    (ap_are_things : PySem.W.nsIn K mainGlobals "are_things" = some (some (.ref fp_are_things)))
    (lp_is_sum : K.lookup fp_is_sum = some ⟨ocp_is_sum, odp_is_sum, .func (PySem.W.fnOf "is_sum" "is_sum" (defArgs sp_is_sum) (defBody sp_is_sum) (defScope sp_is_sum) .none kVp_is_sum dcp_is_sum pmp_is_sum anp_is_sum cdp_is_sum ctp_is_sum), slp_is_sum⟩)
    (cp_is_sum : PySem.W.codeIn K cdp_is_sum "is_sum" = true)
    (kp_is_sum : PySem.W.keepIn K (.ref fp_is_sum) = true)
    (ap_is_sum : PySem.W.nsIn K mainGlobals "is_sum" = some (some (.ref fp_is_sum)))
    (lp_is_pair : K.lookup fp_is_pair = some ⟨ocp_is_pair, odp_is_pair, .func (PySem.W.fnOf "is_pair" "is_pair" (defArgs sp_is_pair) (defBody sp_is_pair) (defScope sp_is_pair) .none kVp_is_pair dcp_is_pair pmp_is_pair anp_is_pair cdp_is_pair ctp_is_pair), slp_is_pair⟩)
    (cp_is_pair : PySem.W.codeIn K cdp_is_pair "is_pair" = true)
    (kp_is_pair : PySem.W.keepIn K (.ref fp_is_pair) = true)
    (ap_is_pair : PySem.W.nsIn K mainGlobals "is_pair" = some (some (.ref fp_is_pair)))
    (lp_is_telling : K.lookup fp_is_telling = some ⟨ocp_is_telling, odp_is_telling, .func (PySem.W.fnOf "is_telling" "is_telling" (defArgs sp_is_telling) (defBody sp_is_telling) (defScope sp_is_telling) .none kVp_is_telling dcp_is_telling pmp_is_telling anp_is_telling cdp_is_telling ctp_is_telling), slp_is_telling⟩)
    (cp_is_telling : PySem.W.codeIn K cdp_is_telling "is_telling" = true)
    (kp_is_telling : PySem.W.keepIn K (.ref fp_is_telling) = true)
    (ap_is_telling : PySem.W.nsIn K mainGlobals "is_telling" = some (some (.ref fp_is_telling)))
    (lp_sum_of : K.lookup fp_sum_of = some ⟨ocp_sum_of, odp_sum_of, .func (PySem.W.fnOf "sum_of" "sum_of" (defArgs sp_sum_of) (defBody sp_sum_of) (defScope sp_sum_of) .none kVp_sum_of dcp_sum_of pmp_sum_of anp_sum_of cdp_sum_of ctp_sum_of), slp_sum_of⟩)
    (cp_sum_of : PySem.W.codeIn K cdp_sum_of "sum_of" = true)
    (kp_sum_of : PySem.W.keepIn K (.ref fp_sum_of) = true)
    (ap_sum_of : PySem.W.nsIn K mainGlobals "sum_of" = some (some (.ref fp_sum_of)))
    (lp_sums : K.lookup fp_sums = some ⟨ocp_sums, odp_sums, .func (PySem.W.fnOf "sums" "sums" (defArgs sp_sums) (defBody sp_sums) (defScope sp_sums) .none kVp_sums dcp_sums pmp_sums anp_sums cdp_sums ctp_sums), slp_sums⟩)
    (cp_sums : PySem.W.codeIn K cdp_sums "sums" = true)
    (kp_sums : PySem.W.keepIn K (.ref fp_sums) = true)
    (ap_sums : PySem.W.nsIn K mainGlobals "sums" = some (some (.ref fp_sums)))
    (lp_pairs : K.lookup fp_pairs = some ⟨ocp_pairs, odp_pairs, .func (PySem.W.fnOf "pairs" "pairs" (defArgs sp_pairs) (defBody sp_pairs) (defScope sp_pairs) .none kVp_pairs dcp_pairs pmp_pairs anp_pairs cdp_pairs ctp_pairs), slp_pairs⟩)
    (cp_pairs : PySem.W.codeIn K cdp_pairs "pairs" = true)
    (kp_pairs : PySem.W.keepIn K (.ref fp_pairs) = true)
    (ap_pairs : PySem.W.nsIn K mainGlobals "pairs" = some (some (.ref fp_pairs)))
    (lp_stands_in : K.lookup fp_stands_in = some ⟨ocp_stands_in, odp_stands_in, .func (PySem.W.fnOf "_stands_in" "_stands_in" (defArgs sp_stands_in) (defBody sp_stands_in) (defScope sp_stands_in) .none kVp_stands_in dcp_stands_in pmp_stands_in anp_stands_in cdp_stands_in ctp_stands_in), slp_stands_in⟩)
    (cp_stands_in : PySem.W.codeIn K cdp_stands_in "_stands_in" = true)
    (kp_stands_in : PySem.W.keepIn K (.ref fp_stands_in) = true)
    (ap_stands_in : PySem.W.nsIn K mainGlobals "_stands_in" = some (some (.ref fp_stands_in)))
    (lp_is_telling_of : K.lookup fp_is_telling_of = some ⟨ocp_is_telling_of, odp_is_telling_of, .func (PySem.W.fnOf "is_telling_of" "is_telling_of" (defArgs sp_is_telling_of) (defBody sp_is_telling_of) (defScope sp_is_telling_of) .none kVp_is_telling_of dcp_is_telling_of pmp_is_telling_of anp_is_telling_of cdp_is_telling_of ctp_is_telling_of), slp_is_telling_of⟩)
    (cp_is_telling_of : PySem.W.codeIn K cdp_is_telling_of "is_telling_of" = true)
    (kp_is_telling_of : PySem.W.keepIn K (.ref fp_is_telling_of) = true)
    (ap_is_telling_of : PySem.W.nsIn K mainGlobals "is_telling_of" = some (some (.ref fp_is_telling_of)))
    (lp_are_tellings : K.lookup fp_are_tellings = some ⟨ocp_are_tellings, odp_are_tellings, .func (PySem.W.fnOf "_are_tellings" "_are_tellings" (defArgs sp_are_tellings) (defBody sp_are_tellings) (defScope sp_are_tellings) .none kVp_are_tellings dcp_are_tellings pmp_are_tellings anp_are_tellings cdp_are_tellings ctp_are_tellings), slp_are_tellings⟩)
    (cp_are_tellings : PySem.W.codeIn K cdp_are_tellings "_are_tellings" = true)
    (kp_are_tellings : PySem.W.keepIn K (.ref fp_are_tellings) = true)
    (ap_are_tellings : PySem.W.nsIn K mainGlobals "_are_tellings" = some (some (.ref fp_are_tellings)))
    (lp_in_names : K.lookup fp_in_names = some ⟨ocp_in_names, odp_in_names, .func (PySem.W.fnOf "_in_names" "_in_names" (defArgs sp_in_names) (defBody sp_in_names) (defScope sp_in_names) .none kVp_in_names dcp_in_names pmp_in_names anp_in_names cdp_in_names ctp_in_names), slp_in_names⟩)
    (cp_in_names : PySem.W.codeIn K cdp_in_names "_in_names" = true)
    (kp_in_names : PySem.W.keepIn K (.ref fp_in_names) = true)
    (ap_in_names : PySem.W.nsIn K mainGlobals "_in_names" = some (some (.ref fp_in_names)))
    (lp_renamed : K.lookup fp_renamed = some ⟨ocp_renamed, odp_renamed, .func (PySem.W.fnOf "renamed" "renamed" (defArgs sp_renamed) (defBody sp_renamed) (defScope sp_renamed) .none kVp_renamed dcp_renamed pmp_renamed anp_renamed cdp_renamed ctp_renamed), slp_renamed⟩)
    (cp_renamed : PySem.W.codeIn K cdp_renamed "renamed" = true)
    (kp_renamed : PySem.W.keepIn K (.ref fp_renamed) = true)
    (ap_renamed : PySem.W.nsIn K mainGlobals "renamed" = some (some (.ref fp_renamed)))
    (lp_are_worths : K.lookup fp_are_worths = some ⟨ocp_are_worths, odp_are_worths, .func (PySem.W.fnOf "are_worths" "are_worths" (defArgs sp_are_worths) (defBody sp_are_worths) (defScope sp_are_worths) .none kVp_are_worths dcp_are_worths pmp_are_worths anp_are_worths cdp_are_worths ctp_are_worths), slp_are_worths⟩)
    (cp_are_worths : PySem.W.codeIn K cdp_are_worths "are_worths" = true)
    (kp_are_worths : PySem.W.keepIn K (.ref fp_are_worths) = true)
    (ap_are_worths : PySem.W.nsIn K mainGlobals "are_worths" = some (some (.ref fp_are_worths)))
    (lp_worth : K.lookup fp_worth = some ⟨ocp_worth, odp_worth, .func (PySem.W.fnOf "worth" "worth" (defArgs sp_worth) (defBody sp_worth) (defScope sp_worth) .none kVp_worth dcp_worth pmp_worth anp_worth cdp_worth ctp_worth), slp_worth⟩)
    (cp_worth : PySem.W.codeIn K cdp_worth "worth" = true)
    (kp_worth : PySem.W.keepIn K (.ref fp_worth) = true)
    (ap_worth : PySem.W.nsIn K mainGlobals "worth" = some (some (.ref fp_worth)))
    (lp_word_in : K.lookup fp_word_in = some ⟨ocp_word_in, odp_word_in, .func (PySem.W.fnOf "word_in" "word_in" (defArgs sp_word_in) (defBody sp_word_in) (defScope sp_word_in) .none kVp_word_in dcp_word_in pmp_word_in anp_word_in cdp_word_in ctp_word_in), slp_word_in⟩)
    (cp_word_in : PySem.W.codeIn K cdp_word_in "word_in" = true)
    (kp_word_in : PySem.W.keepIn K (.ref fp_word_in) = true)
    (ap_word_in : PySem.W.nsIn K mainGlobals "word_in" = some (some (.ref fp_word_in)))
    (lp_classes : K.lookup fp_classes = some ⟨ocp_classes, odp_classes, .func (PySem.W.fnOf "classes" "classes" (defArgs sp_classes) (defBody sp_classes) (defScope sp_classes) .none kVp_classes dcp_classes pmp_classes anp_classes cdp_classes ctp_classes), slp_classes⟩)
    (cp_classes : PySem.W.codeIn K cdp_classes "classes" = true)
    (kp_classes : PySem.W.keepIn K (.ref fp_classes) = true)
    (ap_classes : PySem.W.nsIn K mainGlobals "classes" = some (some (.ref fp_classes)))
    (lp_is_so : K.lookup fp_is_so = some ⟨ocp_is_so, odp_is_so, .func (PySem.W.fnOf "_is_so" "_is_so" (defArgs sp_is_so) (defBody sp_is_so) (defScope sp_is_so) .none kVp_is_so dcp_is_so pmp_is_so anp_is_so cdp_is_so ctp_is_so), slp_is_so⟩)
    (cp_is_so : PySem.W.codeIn K cdp_is_so "_is_so" = true)
    (kp_is_so : PySem.W.keepIn K (.ref fp_is_so) = true)
    (ap_is_so : PySem.W.nsIn K mainGlobals "_is_so" = some (some (.ref fp_is_so)))
    (lp_misfits : K.lookup fp_misfits = some ⟨ocp_misfits, odp_misfits, .func (PySem.W.fnOf "misfits" "misfits" (defArgs sp_misfits) (defBody sp_misfits) (defScope sp_misfits) .none kVp_misfits dcp_misfits pmp_misfits anp_misfits cdp_misfits ctp_misfits), slp_misfits⟩)
    (cp_misfits : PySem.W.codeIn K cdp_misfits "misfits" = true)
    (kp_misfits : PySem.W.keepIn K (.ref fp_misfits) = true)
    (ap_misfits : PySem.W.nsIn K mainGlobals "misfits" = some (some (.ref fp_misfits)))
    (lp_fits : K.lookup fp_fits = some ⟨ocp_fits, odp_fits, .func (PySem.W.fnOf "fits" "fits" (defArgs sp_fits) (defBody sp_fits) (defScope sp_fits) .none kVp_fits dcp_fits pmp_fits anp_fits cdp_fits ctp_fits), slp_fits⟩)
    (cp_fits : PySem.W.codeIn K cdp_fits "fits" = true)
    (kp_fits : PySem.W.keepIn K (.ref fp_fits) = true)
    (ap_fits : PySem.W.nsIn K mainGlobals "fits" = some (some (.ref fp_fits)))
    (l_mixed : K.lookup f_mixed = some ⟨oc_mixed, od_mixed, .func (PySem.W.fnOf "_law_mixed" "_law_mixed" (defArgs s_mixed) (defBody s_mixed) (defScope s_mixed) .none kV_mixed dc_mixed pm_mixed an_mixed cd_mixed ct_mixed), sl_mixed⟩)
    (c_mixed : PySem.W.codeIn K cd_mixed "_law_mixed" = true)
    (k_mixed : PySem.W.keepIn K (.ref f_mixed) = true)
    (a_mixed : PySem.W.nsIn K mainGlobals "_law_mixed" = some (some (.ref f_mixed)))
    (l_one : K.lookup f_one = some ⟨oc_one, od_one, .func (PySem.W.fnOf "_law_one" "_law_one" (defArgs s_one) (defBody s_one) (defScope s_one) .none kV_one dc_one pm_one an_one cd_one ct_one), sl_one⟩)
    (c_one : PySem.W.codeIn K cd_one "_law_one" = true)
    (k_one : PySem.W.keepIn K (.ref f_one) = true)
    (a_one : PySem.W.nsIn K mainGlobals "_law_one" = some (some (.ref f_one)))
    (l_things : K.lookup f_things = some ⟨oc_things, od_things, .func (PySem.W.fnOf "_law_things" "_law_things" (defArgs s_things) (defBody s_things) (defScope s_things) .none kV_things dc_things pm_things an_things cd_things ct_things), sl_things⟩)
    (c_things : PySem.W.codeIn K cd_things "_law_things" = true)
    (k_things : PySem.W.keepIn K (.ref f_things) = true)
    (a_things : PySem.W.nsIn K mainGlobals "_law_things" = some (some (.ref f_things)))
    (l_sum : K.lookup f_sum = some ⟨oc_sum, od_sum, .func (PySem.W.fnOf "_law_sum" "_law_sum" (defArgs s_sum) (defBody s_sum) (defScope s_sum) .none kV_sum dc_sum pm_sum an_sum cd_sum ct_sum), sl_sum⟩)
    (c_sum : PySem.W.codeIn K cd_sum "_law_sum" = true)
    (k_sum : PySem.W.keepIn K (.ref f_sum) = true)
    (a_sum : PySem.W.nsIn K mainGlobals "_law_sum" = some (some (.ref f_sum)))
    (l_pair : K.lookup f_pair = some ⟨oc_pair, od_pair, .func (PySem.W.fnOf "_law_pair" "_law_pair" (defArgs s_pair) (defBody s_pair) (defScope s_pair) .none kV_pair dc_pair pm_pair an_pair cd_pair ct_pair), sl_pair⟩)
    (c_pair : PySem.W.codeIn K cd_pair "_law_pair" = true)
    (k_pair : PySem.W.keepIn K (.ref f_pair) = true)
    (a_pair : PySem.W.nsIn K mainGlobals "_law_pair" = some (some (.ref f_pair)))
    (l_worths : K.lookup f_worths = some ⟨oc_worths, od_worths, .func (PySem.W.fnOf "_law_worths" "_law_worths" (defArgs s_worths) (defBody s_worths) (defScope s_worths) .none kV_worths dc_worths pm_worths an_worths cd_worths ct_worths), sl_worths⟩)
    (c_worths : PySem.W.codeIn K cd_worths "_law_worths" = true)
    (k_worths : PySem.W.keepIn K (.ref f_worths) = true)
    (a_worths : PySem.W.nsIn K mainGlobals "_law_worths" = some (some (.ref f_worths)))
    (l_true_telling : K.lookup f_true_telling = some ⟨oc_true_telling, od_true_telling, .func (PySem.W.fnOf "_law_true_telling" "_law_true_telling" (defArgs s_true_telling) (defBody s_true_telling) (defScope s_true_telling) .none kV_true_telling dc_true_telling pm_true_telling an_true_telling cd_true_telling ct_true_telling), sl_true_telling⟩)
    (c_true_telling : PySem.W.codeIn K cd_true_telling "_law_true_telling" = true)
    (k_true_telling : PySem.W.keepIn K (.ref f_true_telling) = true)
    (a_true_telling : PySem.W.nsIn K mainGlobals "_law_true_telling" = some (some (.ref f_true_telling)))
    (l_words_right : K.lookup f_words_right = some ⟨oc_words_right, od_words_right, .func (PySem.W.fnOf "_law_words_right" "_law_words_right" (defArgs s_words_right) (defBody s_words_right) (defScope s_words_right) .none kV_words_right dc_words_right pm_words_right an_words_right cd_words_right ct_words_right), sl_words_right⟩)
    (c_words_right : PySem.W.codeIn K cd_words_right "_law_words_right" = true)
    (k_words_right : PySem.W.keepIn K (.ref f_words_right) = true)
    (a_words_right : PySem.W.nsIn K mainGlobals "_law_words_right" = some (some (.ref f_words_right)))
    (l_led : K.lookup f_led = some ⟨oc_led, od_led, .func (PySem.W.fnOf "_law_led" "_law_led" (defArgs s_led) (defBody s_led) (defScope s_led) .none kV_led dc_led pm_led an_led cd_led ct_led), sl_led⟩)
    (c_led : PySem.W.codeIn K cd_led "_law_led" = true)
    (k_led : PySem.W.keepIn K (.ref f_led) = true)
    (a_led : PySem.W.nsIn K mainGlobals "_law_led" = some (some (.ref f_led)))
    (cpg : PySem.W.plainGet K C Str.empty = true)
    (chd : PySem.W.hasDictIn K C = true)
    (cpo : PySem.W.plainOver K C = true)
    (csa : PySem.W.findIn K (.ref C) "__setattr__" = some (some (.builtin "object.__setattr__")))
    (ene : PySem.W.findIn K (.ref C) "__ne__" = some (some (.builtin "object.__ne__")))
    (emo : PySem.W.mroIn K C (.type "object") = some true)
    (eca : PySem.W.findIn K (.ref C) "__class__" = some (some (.builtin "object.__class__")))
    (ecg : PySem.W.specialIn K (.builtin "object.__class__") "__get__" = some (some (.builtin "getset_descriptor.__get__")))
    (ect : PySem.W.takesIn K (.builtin "object.__class__") = some true)
    (eci : PySem.W.isClsIn K C = true)
    (ety : PySem.W.typeIn K (.ref C) = some (.type "type"))
    (na_things : PySem.W.findIn K (.ref C) "_things" = some none)
    (na_tellings : PySem.W.findIn K (.ref C) "_tellings" = some none)
    (lo_init : K.lookup fo_init = some ⟨oco_init, odo_init, .func (PySem.W.fnOf "__init__" "Told.__init__" (defArgs so_init) (defBody so_init) (defScope so_init) .none kVo_init dco_init pmo_init ano_init cdo_init cto_init), slo_init⟩)
    (co_init : PySem.W.codeIn K cdo_init "Told.__init__" = true)
    (ko_init : PySem.W.keepIn K (.ref fo_init) = true)
    (ao_init : PySem.W.findIn K (.ref C) "__init__" = some (some (.ref fo_init)))
    (io_init : PySem.W.isFn K (.ref fo_init) = true)
    (mkC : PySem.W.makesIn K C = true)
    (kC : PySem.W.keepIn K (.ref C) = true)
    (aC : PySem.W.nsIn K mainGlobals "Told" = some (some (.ref C)))
    (lo_things : K.lookup fo_things = some ⟨oco_things, odo_things, .func (PySem.W.fnOf "things" "Told.things" (defArgs so_things) (defBody so_things) (defScope so_things) .none kVo_things dco_things pmo_things ano_things cdo_things cto_things), slo_things⟩)
    (co_things : PySem.W.codeIn K cdo_things "Told.things" = true)
    (ko_things : PySem.W.keepIn K (.ref fo_things) = true)
    (ao_things : PySem.W.findIn K (.ref C) "things" = some (some (.ref po_things)))
    (go_things : PySem.W.specialIn K (.ref po_things) "__get__" = some (some (.builtin "property.__get__")))
    (to_things : PySem.W.takesIn K (.ref po_things) = some true)
    (r_o_things : PySem.W.recIn K po_things "property" = some (.ref fo_things :: ro_things))
    (lo_iter : K.lookup fo_iter = some ⟨oco_iter, odo_iter, .func (PySem.W.fnOf "__iter__" "Told.__iter__" (defArgs so_iter) (defBody so_iter) (defScope so_iter) .none kVo_iter dco_iter pmo_iter ano_iter cdo_iter cto_iter), slo_iter⟩)
    (co_iter : PySem.W.codeIn K cdo_iter "Told.__iter__" = true)
    (ko_iter : PySem.W.keepIn K (.ref fo_iter) = true)
    (ao_iter : PySem.W.findIn K (.ref C) "__iter__" = some (some (.ref fo_iter)))
    (io_iter : PySem.W.isFn K (.ref fo_iter) = true)
    (lo_eq : K.lookup fo_eq = some ⟨oco_eq, odo_eq, .func (PySem.W.fnOf "__eq__" "Told.__eq__" (defArgs so_eq) (defBody so_eq) (defScope so_eq) .none kVo_eq dco_eq pmo_eq ano_eq cdo_eq cto_eq), slo_eq⟩)
    (co_eq : PySem.W.codeIn K cdo_eq "Told.__eq__" = true)
    (ko_eq : PySem.W.keepIn K (.ref fo_eq) = true)
    (ao_eq : PySem.W.findIn K (.ref C) "__eq__" = some (some (.ref fo_eq)))
    (io_eq : PySem.W.isFn K (.ref fo_eq) = true)
    (lo_len : K.lookup fo_len = some ⟨oco_len, odo_len, .func (PySem.W.fnOf "__len__" "Told.__len__" (defArgs so_len) (defBody so_len) (defScope so_len) .none kVo_len dco_len pmo_len ano_len cdo_len cto_len), slo_len⟩)
    (co_len : PySem.W.codeIn K cdo_len "Told.__len__" = true)
    (ko_len : PySem.W.keepIn K (.ref fo_len) = true)
    (ao_len : PySem.W.findIn K (.ref C) "__len__" = some (some (.ref fo_len)))
    (io_len : PySem.W.isFn K (.ref fo_len) = true)
    (z_all : PySem.W.nsIn K mainGlobals "all" = some none)
    (z_any : PySem.W.nsIn K mainGlobals "any" = some none)
    (z_bool : PySem.W.nsIn K mainGlobals "bool" = some none)
    (z_dict : PySem.W.nsIn K mainGlobals "dict" = some none)
    (z_enumerate : PySem.W.nsIn K mainGlobals "enumerate" = some none)
    (z_int : PySem.W.nsIn K mainGlobals "int" = some none)
    (z_isinstance : PySem.W.nsIn K mainGlobals "isinstance" = some none)
    (z_iter : PySem.W.nsIn K mainGlobals "iter" = some none)
    (z_len : PySem.W.nsIn K mainGlobals "len" = some none)
    (z_list : PySem.W.nsIn K mainGlobals "list" = some none)
    (z_range : PySem.W.nsIn K mainGlobals "range" = some none)
    (z_set : PySem.W.nsIn K mainGlobals "set" = some none)
    (z_sorted : PySem.W.nsIn K mainGlobals "sorted" = some none)
    (z_str : PySem.W.nsIn K mainGlobals "str" = some none)
    (z_sum : PySem.W.nsIn K mainGlobals "sum" = some none)
    (z_tuple : PySem.W.nsIn K mainGlobals "tuple" = some none)
    (z_zip : PySem.W.nsIn K mainGlobals "zip" = some none)
    (z_MOST_THINGS : PySem.W.nsIn K mainGlobals "MOST_THINGS" = some (some (.int 6 t_MOST_THINGS)))
    (z_MOST_NAMES : PySem.W.nsIn K mainGlobals "MOST_NAMES" = some (some (.int 3 t_MOST_NAMES)))
    (z_MOST_LETTERS : PySem.W.nsIn K mainGlobals "MOST_LETTERS" = some (some (.int 8 t_MOST_LETTERS)))
    (z_WORDS : PySem.W.nsIn K mainGlobals "WORDS" = some (some (.ref aw_WORDS)))
    (y_WORDS : K.lookup aw_WORDS = some ⟨.type "tuple", none, .seq #[.str "alike" u0_WORDS, .str "heavier" u1_WORDS, .str "unlike" u2_WORDS] nw_WORDS, slw_WORDS⟩)
    (l_bag : K.lookup f_bag = some ⟨oc_bag, od_bag, .func (PySem.W.fnOf "_law_bag" "_law_bag" (defArgs s_bag) (defBody s_bag) (defScope s_bag) .none kV_bag dc_bag pm_bag an_bag cd_bag ct_bag), sl_bag⟩)
    (c_bag : PySem.W.codeIn K cd_bag "_law_bag" = true)
    (k_bag : PySem.W.keepIn K (.ref f_bag) = true)
    (a_bag : PySem.W.nsIn K mainGlobals "_law_bag" = some (some (.ref f_bag)))
    (lp_law : K.lookup fp_law = some ⟨ocp_law, odp_law, .func (PySem.W.fnOf "law" "law" (defArgs sp_law) (defBody sp_law) (defScope sp_law) .none kVp_law dcp_law pmp_law anp_law cdp_law ctp_law), slp_law⟩)
    (cp_law : PySem.W.codeIn K cdp_law "law" = true)
    (kp_law : PySem.W.keepIn K (.ref fp_law) = true)
    (ap_law : PySem.W.nsIn K mainGlobals "law" = some (some (.ref fp_law)))
    (z_abs : PySem.W.nsIn K mainGlobals "abs" = some none)
    : ∃ fd : FuncData, (∀ (s : Shared) (v : Value), BindsTo s fd ⟨[v], []⟩ [("_law_script", v)]) ∧ ∀ base : Heap, K.In base → base.Ns mainGlobals mg → FnG l.prog w K mg base CX0 15 fa fd ["_law_script"] (spLaw K) := by
  have e := hfa.symm.trans (PySem.W.mg_of X G ap_law)
  cases e
  have FL := fun_mk (st := sp_law) lp_law cp_law kp_law
  have FB := fun_mk (st := s_bag) l_bag c_bag k_bag
  have bB := FB.binds (ps := ["_law_script"]) fun _ _ _ _ _ _ us hl => match us, hl with | [_], _ => rfl
  have T : Txt K mg C := by
    constructor
    · exact defAt_mk X G a_take l_take c_take k_take fun _ _ _ _ _ _ us hl => match us, hl with | [_, _], _ => rfl
    · exact defAt_mk X G ap_is_within lp_is_within cp_is_within kp_is_within fun _ _ _ _ _ _ us hl => match us, hl with | [_, _], _ => rfl
    · exact defAt_mk X G ap_is_integer lp_is_integer cp_is_integer kp_is_integer fun _ _ _ _ _ _ us hl => match us, hl with | [_], _ => rfl
    · exact defAt_mk X G ap_is_name lp_is_name cp_is_name kp_is_name fun _ _ _ _ _ _ us hl => match us, hl with | [_], _ => rfl
    · exact defAt_mk X G ap_are_names lp_are_names cp_are_names kp_are_names fun _ _ _ _ _ _ us hl => match us, hl with | [_, _], _ => rfl
    · exact defAt_mk X G ap_are_things lp_are_things cp_are_things kp_are_things fun _ _ _ _ _ _ us hl => match us, hl with | [_], _ => rfl
    · exact defAt_mk X G ap_is_sum lp_is_sum cp_is_sum kp_is_sum fun _ _ _ _ _ _ us hl => match us, hl with | [_], _ => rfl
    · exact defAt_mk X G ap_is_pair lp_is_pair cp_is_pair kp_is_pair fun _ _ _ _ _ _ us hl => match us, hl with | [_], _ => rfl
    · exact defAt_mk X G ap_is_telling lp_is_telling cp_is_telling kp_is_telling fun _ _ _ _ _ _ us hl => match us, hl with | [_], _ => rfl
    · exact defAt_mk X G ap_sum_of lp_sum_of cp_sum_of kp_sum_of fun _ _ _ _ _ _ us hl => match us, hl with | [_], _ => rfl
    · exact defAt_mk X G ap_sums lp_sums cp_sums kp_sums fun _ _ _ _ _ _ us hl => match us, hl with | [_, _], _ => rfl
    · exact defAt_mk X G ap_pairs lp_pairs cp_pairs kp_pairs fun _ _ _ _ _ _ us hl => match us, hl with | [_, _], _ => rfl
    · exact defAt_mk X G ap_stands_in lp_stands_in cp_stands_in kp_stands_in fun _ _ _ _ _ _ us hl => match us, hl with | [_, _], _ => rfl
    · exact defAt_mk X G ap_is_telling_of lp_is_telling_of cp_is_telling_of kp_is_telling_of fun _ _ _ _ _ _ us hl => match us, hl with | [_, _], _ => rfl
    · exact defAt_mk X G ap_are_tellings lp_are_tellings cp_are_tellings kp_are_tellings fun _ _ _ _ _ _ us hl => match us, hl with | [_, _], _ => rfl
    · exact defAt_mk X G ap_in_names lp_in_names cp_in_names kp_in_names fun _ _ _ _ _ _ us hl => match us, hl with | [_, _], _ => rfl
    · exact defAt_mk X G ap_renamed lp_renamed cp_renamed kp_renamed fun _ _ _ _ _ _ us hl => match us, hl with | [_, _], _ => rfl
    · exact defAt_mk X G ap_are_worths lp_are_worths cp_are_worths kp_are_worths fun _ _ _ _ _ _ us hl => match us, hl with | [_, _], _ => rfl
    · exact defAt_mk X G ap_worth lp_worth cp_worth kp_worth fun _ _ _ _ _ _ us hl => match us, hl with | [_, _], _ => rfl
    · exact defAt_mk X G ap_word_in lp_word_in cp_word_in kp_word_in fun _ _ _ _ _ _ us hl => match us, hl with | [_, _], _ => rfl
    · exact defAt_mk X G ap_classes lp_classes cp_classes kp_classes fun _ _ _ _ _ _ us hl => match us, hl with | [_, _], _ => rfl
    · exact defAt_mk X G ap_is_so lp_is_so cp_is_so kp_is_so fun _ _ _ _ _ _ us hl => match us, hl with | [_, _, _], _ => rfl
    · exact defAt_mk X G ap_misfits lp_misfits cp_misfits kp_misfits fun _ _ _ _ _ _ us hl => match us, hl with | [_, _], _ => rfl
    · exact defAt_mk X G ap_fits lp_fits cp_fits kp_fits fun _ _ _ _ _ _ us hl => match us, hl with | [_, _], _ => rfl
    · exact defAt_mk X G a_mixed l_mixed c_mixed k_mixed fun _ _ _ _ _ _ us hl => match us, hl with | [_, _], _ => rfl
    · exact defAt_mk X G a_one l_one c_one k_one fun _ _ _ _ _ _ us hl => match us, hl with | [_, _], _ => rfl
    · exact defAt_mk X G a_things l_things c_things k_things fun _ _ _ _ _ _ us hl => match us, hl with | [_, _], _ => rfl
    · exact defAt_mk X G a_sum l_sum c_sum k_sum fun _ _ _ _ _ _ us hl => match us, hl with | [_, _, _], _ => rfl
    · exact defAt_mk X G a_pair l_pair c_pair k_pair fun _ _ _ _ _ _ us hl => match us, hl with | [_, _], _ => rfl
    · exact defAt_mk X G a_worths l_worths c_worths k_worths fun _ _ _ _ _ _ us hl => match us, hl with | [_, _, _, _], _ => rfl
    · exact defAt_mk X G a_true_telling l_true_telling c_true_telling k_true_telling fun _ _ _ _ _ _ us hl => match us, hl with | [_, _], _ => rfl
    · exact defAt_mk X G a_words_right l_words_right c_words_right k_words_right fun _ _ _ _ _ _ us hl => match us, hl with | [_, _, _], _ => rfl
    · exact defAt_mk X G a_led l_led c_led k_led fun _ _ _ _ _ _ us hl => match us, hl with | [_, _], _ => rfl
    · exact ⟨cpg, chd, cpo, csa⟩
    · exact ⟨ene, emo, eca, ecg, ect, eci, ety⟩
    · exact na_things
    · exact na_tellings
    · exact PySem.W.mg_of X G aC
    · exact ⟨_, _, fun_mk lo_init co_init ko_init, ⟨mkC, ao_init, io_init, kC⟩, PySem.W.mg_of X G aC, (fun_mk lo_init co_init ko_init).binds fun _ _ _ _ _ _ us hl => match us, hl with | [_, _, _], _ => rfl⟩
    · exact ⟨_, _, _, fun_mk lo_things co_things ko_things, ⟨ao_things, go_things, to_things, ⟨_, r_o_things⟩⟩, (fun_mk lo_things co_things ko_things).binds fun _ _ _ _ _ _ us hl => match us, hl with | [_], _ => rfl⟩
    · exact ⟨⟨_, _, fun_mk lo_iter co_iter ko_iter, ⟨ao_iter, io_iter, ko_iter⟩, (fun_mk lo_iter co_iter ko_iter).binds fun _ _ _ _ _ _ us hl => match us, hl with | [_], _ => rfl⟩⟩
    · exact ⟨⟨_, _, fun_mk lo_eq co_eq ko_eq, ⟨ao_eq, io_eq, ko_eq⟩, (fun_mk lo_eq co_eq ko_eq).binds fun _ _ _ _ _ _ us hl => match us, hl with | [_, _], _ => rfl⟩⟩
    · exact ⟨⟨_, _, fun_mk lo_len co_len ko_len, ⟨ao_len, io_len, ko_len⟩, (fun_mk lo_len co_len ko_len).binds fun _ _ _ _ _ _ us hl => match us, hl with | [_], _ => rfl⟩⟩
    · exact PySem.W.mg_none_of X G z_all
    · exact PySem.W.mg_none_of X G z_any
    · exact PySem.W.mg_none_of X G z_bool
    · exact PySem.W.mg_none_of X G z_dict
    · exact PySem.W.mg_none_of X G z_enumerate
    · exact PySem.W.mg_none_of X G z_int
    · exact PySem.W.mg_none_of X G z_isinstance
    · exact PySem.W.mg_none_of X G z_iter
    · exact PySem.W.mg_none_of X G z_len
    · exact PySem.W.mg_none_of X G z_list
    · exact PySem.W.mg_none_of X G z_range
    · exact PySem.W.mg_none_of X G z_set
    · exact PySem.W.mg_none_of X G z_sorted
    · exact PySem.W.mg_none_of X G z_str
    · exact PySem.W.mg_none_of X G z_sum
    · exact PySem.W.mg_none_of X G z_tuple
    · exact PySem.W.mg_none_of X G z_zip
    · exact ⟨_, PySem.W.mg_of X G z_MOST_THINGS⟩
    · exact ⟨_, PySem.W.mg_of X G z_MOST_NAMES⟩
    · exact ⟨_, PySem.W.mg_of X G z_MOST_LETTERS⟩
    · exact ⟨_, PySem.W.mg_of X G z_WORDS, fun H => .inr ⟨_, _, _, y_WORDS, rfl, rfl, rfl, (by show 3 ≤ sizeLine; decide), .cons ⟨_, rfl⟩ (.cons ⟨_, rfl⟩ (.cons ⟨_, rfl⟩ .nil))⟩⟩
  exact ⟨_, fun s v => .of_eq rfl, fun base _ _ => ok_law FL FB (PySem.W.mg_of X G a_bag) bB (PySem.W.mg_none_of X G z_abs) T⟩
end K37
open PySem PySem.W PyProof.Rows
set_option maxHeartbeats 0 in
theorem PySem.Challenge.cw_asmuchas_k37_whole_tellings_of_worths_holds : PySem.Challenge.rw_asmuchas_k37_whole_tellings_of_worths.Holds := by
  w_on; o_law; k_head; (case hw => w_witness2)
  k_fill
  refine Pd.top_walk (l := PySem.Challenge.rw_asmuchas_k37_whole_tellings_of_worths) (n := 63) (k := 15) (x := "_law_script") (sp := fun w => Pd.spLaw _) rfl (by decide) rfl ⟨rfl, by decide, by decide⟩ (fun w h Y => PySem.W.kIn_of Y) ?F (fun _ _ a ns hl hS => ⟨a, ns, rfl, hS, hl, fun _ => rfl⟩)
  case F =>
    intro w mg fa h KX G hmg
    refine' K37.all_mk KX G hmg ?l_take ?c_take ?k_take ?a_take ?lp_is_within ?cp_is_within ?kp_is_within ?ap_is_within ?lp_is_integer ?cp_is_integer ?kp_is_integer ?ap_is_integer ?lp_is_name ?cp_is_name ?kp_is_name ?ap_is_name ?lp_are_names ?cp_are_names ?kp_are_names ?ap_are_names ?lp_are_things ?cp_are_things ?kp_are_things ?ap_are_things ?lp_is_sum ?cp_is_sum ?kp_is_sum ?ap_is_sum ?lp_is_pair ?cp_is_pair ?kp_is_pair ?ap_is_pair ?lp_is_telling ?cp_is_telling ?kp_is_telling ?ap_is_telling ?lp_sum_of ?cp_sum_of ?kp_sum_of ?ap_sum_of ?lp_sums ?cp_sums ?kp_sums ?ap_sums ?lp_pairs ?cp_pairs ?kp_pairs ?ap_pairs ?lp_stands_in ?cp_stands_in ?kp_stands_in ?ap_stands_in ?lp_is_telling_of ?cp_is_telling_of ?kp_is_telling_of ?ap_is_telling_of ?lp_are_tellings ?cp_are_tellings ?kp_are_tellings ?ap_are_tellings ?lp_in_names ?cp_in_names ?kp_in_names ?ap_in_names ?lp_renamed ?cp_renamed ?kp_renamed ?ap_renamed ?lp_are_worths ?cp_are_worths ?kp_are_worths ?ap_are_worths ?lp_worth ?cp_worth ?kp_worth ?ap_worth ?lp_word_in ?cp_word_in ?kp_word_in ?ap_word_in ?lp_classes ?cp_classes ?kp_classes ?ap_classes ?lp_is_so ?cp_is_so ?kp_is_so ?ap_is_so ?lp_misfits ?cp_misfits ?kp_misfits ?ap_misfits ?lp_fits ?cp_fits ?kp_fits ?ap_fits ?l_mixed ?c_mixed ?k_mixed ?a_mixed ?l_one ?c_one ?k_one ?a_one ?l_things ?c_things ?k_things ?a_things ?l_sum ?c_sum ?k_sum ?a_sum ?l_pair ?c_pair ?k_pair ?a_pair ?l_worths ?c_worths ?k_worths ?a_worths ?l_true_telling ?c_true_telling ?k_true_telling ?a_true_telling ?l_words_right ?c_words_right ?k_words_right ?a_words_right ?l_led ?c_led ?k_led ?a_led ?cpg ?chd ?cpo ?csa ?ene ?emo ?eca ?ecg ?ect ?eci ?ety ?na_things ?na_tellings ?lo_init ?co_init ?ko_init ?ao_init ?io_init ?mkC ?kC ?aC ?lo_things ?co_things ?ko_things ?ao_things ?go_things ?to_things ?r_o_things ?lo_iter ?co_iter ?ko_iter ?ao_iter ?io_iter ?lo_eq ?co_eq ?ko_eq ?ao_eq ?io_eq ?lo_len ?co_len ?ko_len ?ao_len ?io_len ?z_all ?z_any ?z_bool ?z_dict ?z_enumerate ?z_int ?z_isinstance ?z_iter ?z_len ?z_list ?z_range ?z_set ?z_sorted ?z_str ?z_sum ?z_tuple ?z_zip ?z_MOST_THINGS ?z_MOST_NAMES ?z_MOST_LETTERS ?z_WORDS ?y_WORDS ?l_bag ?c_bag ?k_bag ?a_bag ?lp_law ?cp_law ?kp_law ?ap_law ?z_abs
    (case aC => k_is)
    (case a_take => k_is)
    (case ap_is_within => k_is)
    (case ap_is_integer => k_is)
    (case ap_is_name => k_is)
    (case ap_are_names => k_is)
    (case ap_are_things => k_is)
    (case ap_is_sum => k_is)
    (case ap_is_pair => k_is)
    (case ap_is_telling => k_is)
    (case ap_sum_of => k_is)
    (case ap_sums => k_is)
    (case ap_pairs => k_is)
    (case ap_stands_in => k_is)
    (case ap_is_telling_of => k_is)
    (case ap_are_tellings => k_is)
    (case ap_in_names => k_is)
    (case ap_renamed => k_is)
    (case ap_are_worths => k_is)
    (case ap_worth => k_is)
    (case ap_word_in => k_is)
    (case ap_classes => k_is)
    (case ap_is_so => k_is)
    (case ap_misfits => k_is)
    (case ap_fits => k_is)
    (case a_mixed => k_is)
    (case a_one => k_is)
    (case a_things => k_is)
    (case a_sum => k_is)
    (case a_pair => k_is)
    (case a_worths => k_is)
    (case a_true_telling => k_is)
    (case a_words_right => k_is)
    (case a_led => k_is)
    (case ao_init => k_is)
    (case ao_things => k_is)
    (case ao_iter => k_is)
    (case ao_eq => k_is)
    (case ao_len => k_is)
    (case a_bag => k_is)
    (case ap_law => k_is)
    (case r_o_things => k_is)
    (case l_take => k_is)
    (case c_take => k_is)
    (case k_take => k_is)
    (case lp_is_within => k_is)
    (case cp_is_within => k_is)
    (case kp_is_within => k_is)
    (case lp_is_integer => k_is)
    (case cp_is_integer => k_is)
    (case kp_is_integer => k_is)
    (case lp_is_name => k_is)
    (case cp_is_name => k_is)
    (case kp_is_name => k_is)
    (case lp_are_names => k_is)
    (case cp_are_names => k_is)
    (case kp_are_names => k_is)
    (case lp_are_things => k_is)
    (case cp_are_things => k_is)
    (case kp_are_things => k_is)
    (case lp_is_sum => k_is)
    (case cp_is_sum => k_is)
    (case kp_is_sum => k_is)
    (case lp_is_pair => k_is)
    (case cp_is_pair => k_is)
    (case kp_is_pair => k_is)
    (case lp_is_telling => k_is)
    (case cp_is_telling => k_is)
    (case kp_is_telling => k_is)
    (case lp_sum_of => k_is)
    (case cp_sum_of => k_is)
    (case kp_sum_of => k_is)
    (case lp_sums => k_is)
    (case cp_sums => k_is)
    (case kp_sums => k_is)
    (case lp_pairs => k_is)
    (case cp_pairs => k_is)
    (case kp_pairs => k_is)
    (case lp_stands_in => k_is)
    (case cp_stands_in => k_is)
    (case kp_stands_in => k_is)
    (case lp_is_telling_of => k_is)
    (case cp_is_telling_of => k_is)
    (case kp_is_telling_of => k_is)
    (case lp_are_tellings => k_is)
    (case cp_are_tellings => k_is)
    (case kp_are_tellings => k_is)
    (case lp_in_names => k_is)
    (case cp_in_names => k_is)
    (case kp_in_names => k_is)
    (case lp_renamed => k_is)
    (case cp_renamed => k_is)
    (case kp_renamed => k_is)
    (case lp_are_worths => k_is)
    (case cp_are_worths => k_is)
    (case kp_are_worths => k_is)
    (case lp_worth => k_is)
    (case cp_worth => k_is)
    (case kp_worth => k_is)
    (case lp_word_in => k_is)
    (case cp_word_in => k_is)
    (case kp_word_in => k_is)
    (case lp_classes => k_is)
    (case cp_classes => k_is)
    (case kp_classes => k_is)
    (case lp_is_so => k_is)
    (case cp_is_so => k_is)
    (case kp_is_so => k_is)
    (case lp_misfits => k_is)
    (case cp_misfits => k_is)
    (case kp_misfits => k_is)
    (case lp_fits => k_is)
    (case cp_fits => k_is)
    (case kp_fits => k_is)
    (case l_mixed => k_is)
    (case c_mixed => k_is)
    (case k_mixed => k_is)
    (case l_one => k_is)
    (case c_one => k_is)
    (case k_one => k_is)
    (case l_things => k_is)
    (case c_things => k_is)
    (case k_things => k_is)
    (case l_sum => k_is)
    (case c_sum => k_is)
    (case k_sum => k_is)
    (case l_pair => k_is)
    (case c_pair => k_is)
    (case k_pair => k_is)
    (case l_worths => k_is)
    (case c_worths => k_is)
    (case k_worths => k_is)
    (case l_true_telling => k_is)
    (case c_true_telling => k_is)
    (case k_true_telling => k_is)
    (case l_words_right => k_is)
    (case c_words_right => k_is)
    (case k_words_right => k_is)
    (case l_led => k_is)
    (case c_led => k_is)
    (case k_led => k_is)
    (case cpg => k_is)
    (case chd => k_is)
    (case cpo => k_is)
    (case csa => k_is)
    (case ene => k_is)
    (case emo => k_is)
    (case eca => k_is)
    (case ecg => k_is)
    (case ect => k_is)
    (case eci => k_is)
    (case ety => k_is)
    (case na_things => k_is)
    (case na_tellings => k_is)
    (case lo_init => k_is)
    (case co_init => k_is)
    (case ko_init => k_is)
    (case io_init => k_is)
    (case mkC => k_is)
    (case kC => k_is)
    (case lo_things => k_is)
    (case co_things => k_is)
    (case ko_things => k_is)
    (case go_things => k_is)
    (case to_things => k_is)
    (case lo_iter => k_is)
    (case co_iter => k_is)
    (case ko_iter => k_is)
    (case io_iter => k_is)
    (case lo_eq => k_is)
    (case co_eq => k_is)
    (case ko_eq => k_is)
    (case io_eq => k_is)
    (case lo_len => k_is)
    (case co_len => k_is)
    (case ko_len => k_is)
    (case io_len => k_is)
    (case z_all => k_is)
    (case z_any => k_is)
    (case z_bool => k_is)
    (case z_dict => k_is)
    (case z_enumerate => k_is)
    (case z_int => k_is)
    (case z_isinstance => k_is)
    (case z_iter => k_is)
    (case z_len => k_is)
    (case z_list => k_is)
    (case z_range => k_is)
    (case z_set => k_is)
    (case z_sorted => k_is)
    (case z_str => k_is)
    (case z_sum => k_is)
    (case z_tuple => k_is)
    (case z_zip => k_is)
    (case z_MOST_THINGS => k_is)
    (case z_MOST_NAMES => k_is)
    (case z_MOST_LETTERS => k_is)
    (case z_WORDS => k_is)
    (case y_WORDS => k_is)
    (case l_bag => k_is)
    (case c_bag => k_is)
    (case k_bag => k_is)
    (case lp_law => k_is)
    (case cp_law => k_is)
    (case kp_law => k_is)
    (case z_abs => k_is)
