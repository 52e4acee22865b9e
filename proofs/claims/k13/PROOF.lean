import PyProof.Rows.All
import Wide.All
import OpenK.AllK
import Wide.FinOn
import HandS.ForMost
import HandS.Wide
import HandS.TupAny
import KE.SortData
import PyProof.ReprRoads
import HandS.Zip
import KE.DataFind
import HandS.Gcd
import HandS.TupMul
import KE.KTupSum
import HandS.Ends
import PySem.Challenge.RW_asmuchas_k13_rows_reckoned
set_option Elab.async false
set_option linter.all false
set_option maxRecDepth 100000
set_option maxHeartbeats 4000000
set_option exponentiation.threshold 500
/-! A layer of pure data over the hand layer: readings speak of data and slots, not of heaps. -/
namespace Pd
open PySem PySem.Spec PyProof.Rows L2

/-- data -/
inductive Da where
  | non | bl (b : Bool) | int (i : Int) | str (x : Str)
  | lst (xs : List Da) | tup (xs : List Da) | tpw (xs : List Da) | dct (kvs : List (Key × Da))
  /-- the bag of draws -/
  | bag
  | raw (v : V)

/-- all that is tracked stays -/
def Sm (H H' : Hp) : Prop := ∀ b o, H b = some o → H' b = some o

/-- a tuple that has no dict of its own -/
def TupS (K : PySem.W.Frag) (H : Hp) (a : Addr) (xs : List V) : Prop :=
  (∃ o : Obj, H a = some (.frz o (.tup xs)) ∧ o.dict = none) ∨
    ∃ (o : Obj) (its : Array Value) (n : Nat), K.lookup a = some o ∧ o.cls = .type "tuple" ∧ o.dict = none ∧ o.data = .seq its n ∧ its.size ≤ sizeLine ∧ Vals xs its.toList
theorem TupS.sq {K : PySem.W.Frag} {H : Hp} {a : Addr} {xs : List V} (h : TupS K H a xs) : SqT K H a xs := by
  rcases h with ⟨o, h, _⟩ | ⟨o, its, n, h1, h2, _, h3, h4, h5⟩
  · exact .inl (.inr ⟨o, h⟩)
  · exact .inr ⟨o, its, n, h1, h2, h3, h4, h5⟩

mutual
/-- v is the datum d in the heap Hh, g the bag's address -/
inductive Dv (K : PySem.W.Frag) (g : Option Addr) (Hh : Hp) : V → Da → Prop
  | non : Dv K g Hh .non .non
  | bl (b : Bool) : Dv K g Hh (.bl b) (.bl b)
  | int (i : Int) : Dv K g Hh (.int i) (.int i)
  | str (x : Str) : Dv K g Hh (.str x) (.str x)
  | lst {a : Addr} {xs : List V} {ds : List Da} : Hh a = some (.lst xs) → DvAll K g Hh xs ds → Dv K g Hh (.ref a) (.lst ds)
  | tup {a : Addr} {xs : List V} {ds : List Da} : TupS K Hh a xs → DvAll K g Hh xs ds → Dv K g Hh (.ref a) (.tup ds)
  | tpw {a : Addr} {xs : List V} {ds : List Da} : SqT K Hh a xs → DvAll K g Hh xs ds → Dv K g Hh (.ref a) (.tpw ds)
  | dct {a : Addr} {kvs : List (Key × V)} {ds : List (Key × Da)} : Hh a = some (.dK kvs) → KvAll K g Hh kvs ds → Dv K g Hh (.ref a) (.dct ds)
  | bag {a : Addr} : g = some a → Dv K g Hh (.ref a) .bag
  | raw {v : V} : Dv K g Hh v (.raw v)
inductive DvAll (K : PySem.W.Frag) (g : Option Addr) (Hh : Hp) : List V → List Da → Prop
  | nil : DvAll K g Hh [] []
  | cons {v : V} {vs : List V} {d : Da} {ds : List Da} : Dv K g Hh v d → DvAll K g Hh vs ds → DvAll K g Hh (v :: vs) (d :: ds)
inductive KvAll (K : PySem.W.Frag) (g : Option Addr) (Hh : Hp) : List (Key × V) → List (Key × Da) → Prop
  | nil : KvAll K g Hh [] []
  | cons {k : Key} {v : V} {vs : List (Key × V)} {d : Da} {ds : List (Key × Da)} : Dv K g Hh v d → KvAll K g Hh vs ds → KvAll K g Hh ((k, v) :: vs) ((k, d) :: ds)
end

section
variable {K : PySem.W.Frag} {g : Option Addr} {H H' : Hp}
theorem sqt_mono {a : Addr} {xs : List V} (e : Sm H H') (h : SqT K H a xs) : SqT K H' a xs := by
  rcases h with (h | ⟨o, h⟩) | h
  · exact .inl (.inl (e _ _ h))
  · exact .inl (.inr ⟨o, e _ _ h⟩)
  · exact .inr h
theorem tups_mono {a : Addr} {xs : List V} (e : Sm H H') (h : TupS K H a xs) : TupS K H' a xs := by
  rcases h with ⟨o, h, n⟩ | h
  · exact .inl ⟨o, e _ _ h, n⟩
  · exact .inr h
mutual
theorem Dv.mono (e : Sm H H') : ∀ (d : Da) (v : V), Dv K g H v d → Dv K g H' v d
  | .non, _, h => by cases h; exact .non
  | .bl _, _, h => by cases h; exact .bl _
  | .int _, _, h => by cases h; exact .int _
  | .str _, _, h => by cases h; exact .str _
  | .lst ds, _, h => by
    cases h with
    | lst h1 h2 => exact .lst (e _ _ h1) (DvAll.mono e ds _ h2)
  | .tup ds, _, h => by
    cases h with
    | tup h1 h2 => exact .tup (tups_mono e h1) (DvAll.mono e ds _ h2)
  | .tpw ds, _, h => by
    cases h with
    | tpw h1 h2 => exact .tpw (sqt_mono e h1) (DvAll.mono e ds _ h2)
  | .dct ds, _, h => by
    cases h with
    | dct h1 h2 => exact .dct (e _ _ h1) (KvAll.mono e ds _ h2)
  | .bag, _, h => by
    cases h with
    | bag q => exact .bag q
  | .raw _, _, h => by cases h; exact .raw
theorem DvAll.mono (e : Sm H H') : ∀ (ds : List Da) (vs : List V), DvAll K g H vs ds → DvAll K g H' vs ds
  | [], _, h => by cases h; exact .nil
  | d :: ds, _, h => by
    cases h with
    | cons h1 h2 => exact .cons (Dv.mono e d _ h1) (DvAll.mono e ds _ h2)
theorem KvAll.mono (e : Sm H H') : ∀ (ds : List (Key × Da)) (vs : List (Key × V)), KvAll K g H vs ds → KvAll K g H' vs ds
  | [], _, h => by cases h; exact .nil
  | (k, d) :: ds, _, h => by
    cases h with
    | cons h1 h2 => exact .cons (Dv.mono e d _ h1) (KvAll.mono e ds _ h2)
end
theorem DvAll.len {xs : List V} : ∀ {ds : List Da}, DvAll K g H xs ds → xs.length = ds.length := by
  induction xs with
  | nil => intro ds h; cases h; rfl
  | cons x xs ih =>
    intro ds h
    cases h with
    | cons _ t => rw [List.length_cons, List.length_cons, ih t]
theorem DvAll.app {xs ys : List V} : ∀ {ds es : List Da}, DvAll K g H xs ds → DvAll K g H ys es → DvAll K g H (xs ++ ys) (ds ++ es) := by
  induction xs with
  | nil => intro ds es h q; cases h; exact q
  | cons x xs ih =>
    intro ds es h q
    cases h with
    | cons p t => exact .cons p (ih t q)
theorem DvAll.at {xs : List V} : ∀ {ds : List Da} {i : Nat} {d : Da}, DvAll K g H xs ds → ds[i]? = some d → ∃ v, xs[i]? = some v ∧ Dv K g H v d := by
  induction xs with
  | nil => intro ds i d h e; cases h; cases e
  | cons x xs ih =>
    intro ds i d h e
    cases h with
    | cons p t =>
      cases i with
      | zero => cases e; exact ⟨x, rfl, p⟩
      | succ i => exact ih (i := i) t (by simpa using e)
theorem DvAll.ta {xs : List V} : ∀ {ds : List Da} {i : Nat} {v : V}, DvAll K g H xs ds → xs[i]? = some v → ∃ d, ds[i]? = some d ∧ Dv K g H v d := by
  induction xs with
  | nil => intro ds i d h e; cases e
  | cons x xs ih =>
    intro ds i d h e
    cases h with
    | cons p t =>
      cases i with
      | zero => cases e; exact ⟨_, rfl, p⟩
      | succ i => exact ih (i := i) t (by simpa using e)
theorem DvAll.tk {xs : List V} : ∀ {ds : List Da} (n : Nat), DvAll K g H xs ds → DvAll K g H (xs.take n) (ds.take n) := by
  induction xs with
  | nil => intro ds n h; cases h; rw [List.take_nil, List.take_nil]; exact .nil
  | cons x xs ih =>
    intro ds n h
    cases h with
    | cons p t =>
      cases n with
      | zero => exact .nil
      | succ n => exact .cons p (ih n t)
theorem DvAll.dr {xs : List V} : ∀ {ds : List Da} (n : Nat), DvAll K g H xs ds → DvAll K g H (xs.drop n) (ds.drop n) := by
  induction xs with
  | nil => intro ds n h; cases h; rw [List.drop_nil, List.drop_nil]; exact .nil
  | cons x xs ih =>
    intro ds n h
    cases h with
    | cons p t =>
      cases n with
      | zero => exact .cons p t
      | succ n => exact ih n t
theorem DvAll.ints : ∀ {is : List Int} {xs : List V}, DvAll K g H xs (is.map .int) → xs = is.map V.int
  | [], _, h => by cases h; rfl
  | i :: is, _, h => by
    cases h with
    | cons p t =>
      cases p
      rw [DvAll.ints t, List.map_cons]
theorem DvAll.mk_ints : ∀ (is : List Int), DvAll K g H (is.map V.int) (is.map .int)
  | [] => .nil
  | i :: is => .cons (.int i) (DvAll.mk_ints is)
theorem DvAll.strs : ∀ {is : List Str} {xs : List V}, DvAll K g H xs (is.map .str) → xs = is.map V.str
  | [], _, h => by cases h; rfl
  | i :: is, _, h => by
    cases h with
    | cons p t =>
      cases p
      rw [DvAll.strs t, List.map_cons]
theorem DvAll.mk_strs : ∀ (is : List Str), DvAll K g H (is.map V.str) (is.map .str)
  | [] => .nil
  | i :: is => .cons (.str i) (DvAll.mk_strs is)
end

/-! ### the world of a def -/
/-- what is hidden from data -/
def hid (W : Addr → Bool) (H : Hp) : Hp := fun a => if W a = true then none else H a
theorem hid_no {W : Addr → Bool} {H : Hp} {a : Addr} (h : W a = false) : hid W H a = H a := by
  unfold hid; rw [h]; exact if_neg Bool.false_ne_true
theorem hid_some {W : Addr → Bool} {H : Hp} {a : Addr} {o : HO} (h : hid W H a = some o) : W a = false ∧ H a = some o := by
  unfold hid at h
  split at h
  · cases h
  · rename_i z
    exact ⟨by simpa using z, h⟩
theorem hid_le {W W' : Addr → Bool} {H : Hp} (h : ∀ a, W a = true → W' a = true) : Sm (hid W' H) (hid W H) := fun a o e => by
  obtain ⟨e1, e2⟩ := hid_some e
  rw [hid_no]
  · exact e2
  · cases q : W a with
    | false => rfl
    | true => rw [h a q] at e1; cases e1
theorem hid_sub {W : Addr → Bool} {H : Hp} : Sm (hid W H) H := fun a o e => (hid_some e).2

/-- all but the bag is kept -/
def Ext (g : Option Addr) (H H' : Hp) : Prop := ∀ b o, g ≠ some b → H b = some o → H' b = some o
theorem Ext.refl {g : Option Addr} {H : Hp} : Ext g H H := fun _ _ _ h => h
theorem Ext.trans {g : Option Addr} {H H1 H2 : Hp} (a : Ext g H H1) (b : Ext g H1 H2) : Ext g H H2 := fun c o n h => b c o n (a c o n h)
theorem Ext.of {g : Option Addr} {H H' : Hp} (e : Sm H H') : Ext g H H' := fun b o _ h => e b o h
theorem Ext.hid {g : Option Addr} {H H' : Hp} {W : Addr → Bool} (gW : ∀ a, g = some a → W a = true) (e : Ext g H H') : Sm (hid W H) (hid W H') := fun a o q => by
  obtain ⟨e1, e2⟩ := hid_some q
  rw [hid_no e1]
  exact e a o (fun z => by rw [gW a z] at e1; cases e1) e2

/-- the bag: four places -/
def BagI (K : PySem.W.Frag) (g : Option Addr) (W : Addr → Bool) (H : Hp) : Prop :=
  ∀ a, g = some a → ∃ (x y : Int) (z : Nat) (c : Addr) (cs : List Int), H a = some (.lst [.int x, .int y, .int z, .ref c]) ∧ Pd.hid W H c = some (.lst (cs.map V.int))

/-- the bag, and what is hidden -/
structure OkW (K : PySem.W.Frag) (g : Option Addr) (W : Addr → Bool) (H : Hp) : Prop where
  bag : BagI K g W H
  gW : ∀ a, g = some a → W a = true
  al : ∀ a, W a = true → ∃ o, H a = some o
theorem BagI.same {K : PySem.W.Frag} {g : Option Addr} {W : Addr → Bool} {H H' : Hp} (b : BagI K g W H) (e : Sm H H') : BagI K g W H' := fun a ha => by
  obtain ⟨x, y, z, c, cs, h1, h2⟩ := b a ha
  obtain ⟨q1, q2⟩ := hid_some h2
  exact ⟨x, y, z, c, cs, e _ _ h1, by rw [hid_no q1]; exact e _ _ q2⟩
theorem OkW.same {K : PySem.W.Frag} {g : Option Addr} {W : Addr → Bool} {H H' : Hp} (k : OkW K g W H) (e : Sm H H') : OkW K g W H' :=
  ⟨k.bag.same e, k.gW, fun a h => let ⟨o, q⟩ := k.al a h; ⟨o, e a o q⟩⟩
theorem sm_upd {H : Hp} {p : Addr} {o : HO} (h : H p = none) : Sm H (upd H p o) := fun b x e => by
  rw [upd_ne (ne_of_none e h)]
  exact e
theorem OkW.new {K : PySem.W.Frag} {g : Option Addr} {W : Addr → Bool} {H : Hp} {p : Addr} {o : HO} (k : OkW K g W H) (h : H p = none) :
    Ext g H (upd H p o) ∧ OkW K g W (upd H p o) ∧ Sm (Pd.hid W H) (Pd.hid W (upd H p o)) ∧ Pd.hid W (upd H p o) p = some o := by
  have s := sm_upd (o := o) h
  refine ⟨Ext.of s, k.same s, Ext.hid k.gW (Ext.of s), ?_⟩
  rw [hid_no, upd_same]
  cases q : W p with
  | false => rfl
  | true =>
    obtain ⟨u, z⟩ := k.al p q
    rw [h] at z; cases z

structure Wd where
  H0 : Hp
  g : Option Addr
  W0 : Addr → Bool

/-- a slot: nothing known, a datum, a list of one's own -/
inductive Sl where
  | no | dat (d : Da) | own (ds : List Da)
abbrev En := List Sl

def SlD (K : PySem.W.Frag) (g : Option Addr) (W : Addr → Bool) (own : Nat → Option Addr) (H : Hp) (i : Nat) (v : V) : Sl → Prop
  | .no => True
  | .dat d => Dv K g (hid W H) v d
  | .own ds => ∃ a xs, own i = some a ∧ v = .ref a ∧ H a = some (.lst xs) ∧ DvAll K g (hid W H) xs ds

structure Stt (K : PySem.W.Frag) (w : Wd) (W : Addr → Bool) (own : Nat → Option Addr) (r : En) (σ : L2.St) (H : Hp) : Prop where
  ok : OkW K w.g W H
  base : Ext w.g w.H0 H
  w0 : ∀ a, w.W0 a = true → W a = true
  g0 : ∀ a, w.g = some a → w.W0 a = true
  oW : ∀ i a, own i = some a → W a = true ∧ w.H0 a = none ∧ w.g ≠ some a
  inj : ∀ i j a, own i = some a → own j = some a → i = j
  len : r.length = σ.length
  sl : ∀ i d, r[i]? = some d → d ≠ .no → ∃ v, σ[i]? = some (some v) ∧ SlD K w.g W own H i v d

section
variable {K : PySem.W.Frag} {w : Wd} {W : Addr → Bool} {own : Nat → Option Addr} {r : En} {σ : L2.St} {H H' : Hp}
theorem SlD.ext {g : Option Addr} {i : Nat} {v : V} {d : Sl} (gW : ∀ a, g = some a → W a = true) (og : ∀ i a, own i = some a → g ≠ some a) (e : Ext g H H') (h : SlD K g W own H i v d) : SlD K g W own H' i v d := by
  cases d with
  | no => trivial
  | dat d => exact Dv.mono (e.hid gW) _ _ h
  | own ds =>
    obtain ⟨a, xs, h1, h2, h3, h4⟩ := h
    exact ⟨a, xs, h1, h2, e _ _ (og i a h1) h3, DvAll.mono (e.hid gW) _ _ h4⟩
theorem Stt.ext (S : Stt K w W own r σ H) (e : Ext w.g H H') (b : OkW K w.g W H') : Stt K w W own r σ H' :=
  ⟨b, S.base.trans e, S.w0, S.g0, S.oW, S.inj, S.len, fun i d h n => by
    obtain ⟨v, h1, h2⟩ := S.sl i d h n
    exact ⟨v, h1, h2.ext S.ok.gW (fun i a q => (S.oW i a q).2.2) e⟩⟩
theorem Stt.dat (S : Stt K w W own r σ H) {i : Nat} {d : Da} (h : r[i]? = some (.dat d)) : ∃ v, σ[i]? = some (some v) ∧ Dv K w.g (hid W H) v d := by
  obtain ⟨v, h1, h2⟩ := S.sl i _ h (fun z => by cases z)
  exact ⟨v, h1, h2⟩
/-- a slot is set to a datum (an owned list of that slot is let go) -/
theorem Stt.set (S : Stt K w W own r σ H) {i : Nat} {v : V} {d : Da} (hd : Dv K w.g (hid W H) v d) : ∃ own', Stt K w W own' (r.set i (.dat d)) (σ.set i (some v)) H := by
  refine ⟨fun j => if j = i then none else own j, S.ok, S.base, S.w0, S.g0, fun j a h => ?_, fun j k a h1 h2 => ?_, by rw [List.length_set, List.length_set]; exact S.len, fun j u h n => ?_⟩
  · split at h
    · cases h
    · exact S.oW j a h
  · split at h1
    · cases h1
    · split at h2
      · cases h2
      · exact S.inj j k a h1 h2
  · by_cases hj : j = i
    · subst hj
      have hl : j < r.length := by
        have := (List.getElem?_eq_some_iff.mp h).1
        rwa [List.length_set] at this
      rw [List.getElem?_set_self hl] at h
      cases h
      exact ⟨v, by rw [List.getElem?_set_self (by rw [← S.len]; exact hl)], hd⟩
    · rw [List.getElem?_set_ne (Ne.symm hj)] at h
      obtain ⟨u', h1, h2⟩ := S.sl j u h n
      refine ⟨u', by rw [List.getElem?_set_ne (Ne.symm hj)]; exact h1, ?_⟩
      cases u with
      | no => trivial
      | dat d => exact h2
      | own ds =>
        obtain ⟨a, xs, q1, q2⟩ := h2
        exact ⟨a, xs, (if_neg hj).trans q1, q2⟩
/-- slots forgotten -/
def wipeD (r : En) : List Nat → En
  | [] => r
  | v :: vs => (wipeD r vs).set v .no
theorem wipeD_len (r : En) : ∀ vs : List Nat, (wipeD r vs).length = r.length
  | [] => rfl
  | v :: vs => by unfold wipeD; rw [List.length_set, wipeD_len r vs]
theorem Stt.forget (S : Stt K w W own r σ H) (i : Nat) (x : Option V) : Stt K w W own (r.set i .no) (σ.set i x) H := by
  refine ⟨S.ok, S.base, S.w0, S.g0, S.oW, S.inj, by rw [List.length_set, List.length_set]; exact S.len, fun j u h n => ?_⟩
  by_cases hj : j = i
  · subst hj
    have hl : j < r.length := by
      have := (List.getElem?_eq_some_iff.mp h).1
      rwa [List.length_set] at this
    rw [List.getElem?_set_self hl] at h
    cases h
    exact absurd rfl n
  · rw [List.getElem?_set_ne (Ne.symm hj)] at h
    obtain ⟨u', h1, h2⟩ := S.sl j u h n
    exact ⟨u', by rw [List.getElem?_set_ne (Ne.symm hj)]; exact h1, h2⟩
theorem Stt.wipe (S : Stt K w W own r σ H) : ∀ vs : List Nat, Stt K w W own (wipeD r vs) (L2.wipe σ vs) H
  | [] => S
  | v :: vs => by
    show Stt K w W own ((wipeD r vs).set v .no) ((L2.wipe σ vs).set v none) H
    exact (S.wipe vs).forget v none
end
end Pd
/-! Contracts that know that no repr is under way; the judgements of pure data. -/
namespace Pd
open PySem PySem.Spec PyProof.Rows L2

/-! ### contracts with the guards told -/
structure FnG (P : Program) (wd : World) (K : PySem.W.Frag) (mg : Str → Option Value) (base : Heap) (CX : CXT) (k : Nat) (f : Addr) (fd : FuncData) (ps : List Str) (sp : Sp) : Prop where
  many : ∀ vs H Q E, sp vs H Q E → vs.length = ps.length
  goes : ∀ (A : Around) (outer : List Env) (s0 : Shared) (H : Hp) (args : Args) (us : List Value) (vs : List V) (Q : VK) (E : XK),
    Room k A → A.guards = some [] → Env0 P wd K mg base A outer s0 H → BindsTo s0 fd args (ps.zip us) → Vals vs us → sp vs H Q E →
      codeAny (model P wd) A (.call (.ref f) args) (CR CX outer P wd H s0 Q E) s0
theorem FnG.up {P : Program} {wd : World} {K : PySem.W.Frag} {mg : Str → Option Value} {base : Heap} {CX : CXT} {j k : Nat} {f : Addr} {fd : FuncData} {ps : List Str} {sp : Sp}
    (F : FnG P wd K mg base CX j f fd ps sp) (h : j ≤ k) : FnG P wd K mg base CX k f fd ps sp :=
  ⟨F.many, fun A outer s0 H args us vs Q E room => F.goes A outer s0 H args us vs Q E (room.mono h)⟩

/-- a def's body, the guards told -/
theorem fnG_of {CX : CXT} {P : Program} {wd : World} {K : PySem.W.Frag} {mg : Str → Option Value} {base : Heap} {k : Nat} {f : Addr} {nm qual : Str} {params : Arguments} {body : List Stmt} {sc : Scope}
    {dV kV doc pm cdv ct oc : Value} {an od : Option Addr} {osl : Array (Option Value)} {N ps : List Str} {sp : Sp}
    (at_f : K.lookup f = some ⟨oc, od, .func (PySem.W.fnOf nm qual params body sc dV kV doc pm an cdv ct), osl⟩)
    (at_c : PySem.W.codeIn K cdv qual = true) (S : FnScope N ps sc)
    (many : ∀ vs H Q E, sp vs H Q E → vs.length = ps.length)
    (inside : ∀ (A : Around) (outer : List Env) (s0 : Shared) (H : Hp) (vs : List V) (Q : VK) (E : XK), Room k (A.deeper (envOfC qual sc s0.heap.objs.size f cdv)) → A.guards = some [] → sp vs H Q E →
      ∃ t, PSs (cxOf CX P wd K mg base N qual sc f cdv A outer s0 H E) body t ∧ t { nx := fun _ H' => Q .non H', rt := Q } (start N vs) H) :
    FnG P wd K mg base CX (k + 1) f (PySem.W.fnOf nm qual params body sc dV kV doc pm an cdv ct) ps sp := by
  constructor
  · exact many
  · intro A outer s0 H args us vs Q E room hG z0 bd rel pre
    have keep0 : ∀ b o, base.get? b = some o → s0.heap.get? b = some o := fun b o e => (z0.bs b o e).1
    have inK : K.In s0.heap := z0.mod.kin.keeps keep0
    have nolim : s0.heap.NoLimit := z0.mod.nolimit.keeps keep0
    have kinds : ∀ y ∈ ps.zip us, sc.names.lookup y.1 = some .local ∨ (sc.names.lookup y.1 = some .cell ∧ ((cellsFrom (s0.heap.objs.size + 1) sc.names []).lookup y.1).isSome = true) := by
      rintro ⟨n, v⟩ hy
      cases S.par n (List.of_mem_zip hy).1 with
      | inl q => exact Or.inl q
      | inr q => exact Or.inr ⟨q, PySem.W.cellsFrom_some _ _ _ (Or.inl q)⟩
    apply codeAny_call_function room.depth (inK _ _ at_f) rfl S.co S.gen rfl (PySem.W.codeRec_of inK at_c) (bd _ _ _ _ ?_)
    apply wpAny_newFunctionEnv_cells S.kind kinds
    intro env ee s1 ic
    subst ee
    refine ⟨nolim.keeps ic.toInCall.keep, codeAny_func ?_⟩
    obtain ⟨t, runs, goal⟩ := inside A outer s0 H vs Q E (room.deeper _) hG pre
    have J := inv_start (CX := CX) (P := P) (w := wd) (K := K) (mg := mg) (base := base) (N := N) (ps := ps) (qual := qual) (scope := sc) (f := f) (cd := cdv) (E := E) S room.hd z0 (many _ _ _ _ pre) rel ic
    have last : ∀ {σ' : L2.St} {H' : Hp} {v : V} {u : Value} {s' : Shared}, Inv (cxOf CX P wd K mg base N qual sc f cdv A outer s0 H E) [] σ' H' s' → RelV v u → Q v H' → CE outer P wd H s0 Q u s' := by
      intro σ' H' v u s' I rv q
      exact ⟨v, H', I.os, I.bare, I.base, I.hok, rv, q⟩
    refine wpAny_mono (runs.run [] s1 (start N vs) H _ J goal) ?_ (fun e s' hs => hs)
    intro fl s' hs
    cases fl with
    | next =>
      obtain ⟨σ', H', I, q⟩ := hs
      exact last (v := V.non) (u := Value.none) I rfl q
    | ret u =>
      obtain ⟨v, σ', H', I, rv, q⟩ := hs
      exact last I rv q
    | brk =>
      obtain ⟨_, _, _, q⟩ := hs
      exact q.elim
    | cont =>
      obtain ⟨_, _, _, q⟩ := hs
      exact q.elim

section
variable {X : Cx} {CX : CXT} {k : Nat} {f : Addr} {fd : FuncData} {ps : List Str} {sp : Sp} {dvs : List V} {ds : List Value} {E : XK} {x : Str} {p pos : Pos} {e : Expr} {es : List Expr} {t : TA}
theorem run_G {pins : List (Addr × Obj)} {σ : L2.St} {H : Hp} {s : Shared} {Q : VK} {us : List Value} {vs : List V} (F : FnG X.prog X.w X.K X.mg X.base CX k f fd ps sp) (room : Room k X.A) (hG : X.A.guards = some [])
    (bd : Binds X.K fd ps ds) (dv : Vals dvs ds) (px : Passes CX X E) (I : Inv X pins σ H s) (rel : Vals vs us) (pre : sp (vs ++ dvs) H Q E) : wpAny (model X.prog X.w) X.A (call (.ref f) us) (EP X pins σ Q) X.xe s := by
  have rel2 : Vals (vs ++ dvs) (us ++ ds) := rel.append dv
  have len2 : (us ++ ds).length = ps.length := rel2.length.symm.trans (F.many _ _ _ _ pre)
  have all := F.goes X.A X.stack s H ⟨us, []⟩ (us ++ ds) (vs ++ dvs) Q E room hG I.env0 (bd s us I.kIn len2) rel2 pre
  refine wpAny_call (codeAny_mono all ?_)
  intro r s' out
  match r, out with
  | .error e, out => exact px pins σ H s e s' I out
  | .ok (.ret u), out => exact I.after out
  | .ok .next, out => exact out.elim
  | .ok .brk, out => exact out.elim
  | .ok .cont, out => exact out.elim
/-- f(..) -/
theorem pe_callG (F : FnG X.prog X.w X.K X.mg X.base CX k f fd ps sp) (room : Room k X.A) (hG : X.A.guards = some []) (gl : Gl X x) (at_x : X.mg x = some (.ref f)) (kp : PySem.W.keepIn X.K (.ref f) = true)
    (bd : Binds X.K fd ps ds) (dv : Vals dvs ds) (px : Passes CX X E) (args : PA X (e :: es) t) (nd : (x == ("__debug__" : Str)) = false := by decide)
    (st : starEach (e :: es) X.env = (false, eval e X.env) :: starEach es X.env := by rfl) (bk : (backTo pos (starEach es X.env)).any (·.1) = false := by rfl) :
    PE X (.Call (.Name x p) (e :: es) [] pos) (tCall sp dvs E t) := by
  constructor
  intro pins s σ H Q I pre
  apply wpAny_Call_Name_kw
  apply ld_glob I gl at_x _ nd
  refine PySem.W.callWith_K (h₀ := X.base) I.ok.mod.kin kp (thn (args.run pos pins s σ H _ I pre) ?_) st bk
  rintro us s1 ⟨vs, H1, I1, rel, q⟩
  exact ⟨I1.kIn, run_G F room hG bd dv px I1 rel q⟩
end

/-! ### a def of the text by its body -/
theorem FunG.ok {P : Program} {wd : World} {K : PySem.W.Frag} {mg : Str → Option Value} {base : Heap} {x qual : Str} {st : Stmt} {f : Addr} {fd : FuncData} {N ps : List Str} {k : Nat} {sp : Sp}
    (F : Fun K x qual st f fd) (S : FnScope N ps (defScope st)) (many : ∀ vs H Q E, sp vs H Q E → vs.length = ps.length)
    (inside : ∀ (cdv : Value) (A : Around) (outer : List Env) (s0 : Shared) (H : Hp) (vs : List V) (Q : VK) (E : XK), Room k (A.deeper (envOfC qual (defScope st) s0.heap.objs.size f cdv)) → A.guards = some [] → sp vs H Q E →
      ∃ t, PSs (cxOf CX0 P wd K mg base N qual (defScope st) f cdv A outer s0 H E).nox (defBody st) t ∧ t { nx := fun _ H' => Q .non H', rt := Q } (start N vs) H) :
    FnG P wd K mg base CX0 (k + 1) f fd ps sp := by
  obtain ⟨oc, od, kV, doc, pm, an, cdv, ct, osl, rfl, at_f, at_c⟩ := F.ex
  apply fnG_of at_f at_c S many
  intro A outer s0 H vs Q E room hG pre
  obtain ⟨t, h, q⟩ := inside cdv A outer s0 H vs Q E room hG pre
  exact ⟨t, h.nox, q⟩
end Pd
/-! Tuples without a dict of their own; the judgements of pure data; operators. -/
namespace Pd
open PySem PySem.Spec PyProof.Rows L2

/-! ### tuples, their objects told -/
def tupO (its : List Value) : Obj := { cls := .type "tuple", data := .seq its.toArray }
section
variable {X : Cx} {pos : Pos} {e : Expr} {es : List Expr} {t : TA}
theorem lay_tup {pins : List (Addr × Obj)} {σ : L2.St} {H : Hp} {s : Shared} {xs : List V} {its : List Value} (I : Inv X pins σ H s) (r : Vals xs its) (z : xs.length ≤ sizeLine) :
    H s.heap.objs.size = none ∧ Inv X pins σ (upd H s.heap.objs.size (.frz (tupO its) (.tup xs))) { s with heap := s.heap.push (tupO its) } := by
  refine ⟨I.hok.fresh (Nat.le_refl _), I.laid (t' := s.toks) (fun b u q => Heap.get?_push_of_some _ q) (Nat.le_refl _) ?_⟩
  have q : (s.heap.push (tupO its)).get? s.heap.objs.size = some (tupO its) := Heap.get?_push_size _ rfl
  exact ⟨q, z, its, r, _, q, rfl, _, rfl⟩
/-- what is wanted of a new tuple -/
def NewT (xs : List V) (H : Hp) (Q : VK) : Prop := ∀ p o, H p = none → o.dict = none → Q (.ref p) (upd H p (.frz o (.tup xs)))
theorem new_tup {pins : List (Addr × Obj)} {σ : L2.St} {H : Hp} {s : Shared} {xs : List V} {its : List Value} {Q : VK} (I : Inv X pins σ H s) (r : Vals xs its) (z : xs.length ≤ sizeLine) (q : NewT xs H Q) :
    EP X pins σ Q (.ref s.heap.objs.size) { s with heap := s.heap.push (tupO its) } := by
  obtain ⟨h1, h2⟩ := lay_tup I r z
  exact ⟨V.ref s.heap.objs.size, _, h2, rfl, q _ _ h1 rfl⟩
def tTupS (t : TA) : TE := fun σ H Q => t σ H fun xs H1 => xs.length ≤ sizeLine ∧ NewT xs H1 Q
theorem pe_tupS {c} (h : PA X es t) : PE X (.Tuple es c pos) (tTupS t) := by
  constructor
  intro pins s σ H Q I hq
  apply wpAny_Tuple_spliced
  refine thn (h.run pos pins s σ H _ I hq) ?_
  rintro us s1 ⟨xs, H1, I1, r, z, q⟩
  exact ⟨by rw [← r.length]; exact z, new_tup I1 r z q⟩
def rTupS (K : PySem.W.Frag) : List V → Hp → VK → Prop := fun xs H Q => ∃ p ys, xs = [.ref p] ∧ ((SqL K H p ys ∧ NewT ys H Q) ∨ (SqT K H p ys ∧ Q (.ref p) H))
theorem cr_tupS : CallR X (.type "tuple") (rTupS X.K) := by
  intro pins s σ H xs us Q I r h
  obtain ⟨p, ys, rfl, h⟩ := h
  obtain ⟨u, rfl, rx⟩ := vals1 r
  cases rx
  cases h with
  | inl h =>
    obtain ⟨its, r', pl, hz⟩ := I.list h.1
    refine call_tuple_list pl.isList (fun h' kp => ?_) ?_
    · have I1 : Inv X pins σ H { s with heap := h' } := I.kept (t' := s.toks) kp
      exact new_tup I1 r' hz h.2
    · have := r'.length
      rw [List.size_toArray]
      omega
  | inr h =>
    obtain ⟨its, r', pl, hz⟩ := I.tuple h.1
    exact call_tuple_same pl ⟨.ref p, H, I, rfl, h.2⟩
def rCatS (K : PySem.W.Frag) : R2 := fun x y H Q => ∃ a b xs ys, x = .ref a ∧ y = .ref b ∧ SqT K H a xs ∧ SqT K H b ys ∧ xs.length + ys.length ≤ sizeLine ∧
  (xs = [] → Q (.ref b) H) ∧ (ys = [] → Q (.ref a) H) ∧ NewT (xs ++ ys) H Q
theorem op_catS (cat0 : ∀ {prog : Program} {wd : World} {A : Around} {E : Value → Shared → Prop} {s : Shared} {t b : Addr} {ws : List Value} {Q : Value → Shared → Prop}, IsTup s.heap t ([] : List Value).toArray → IsTup s.heap b ws.toArray → Q (.ref b) s → wpAny (model prog wd) A (binaryOp .Add (.ref t) (.ref b)) Q E s) :
    OpR X (binaryOp .Add) (rCatS X.K) := by
  intro pins s σ H x y v u Q I rx ry h
  obtain ⟨a, b, xs, ys, rfl, rfl, ha, hb, hz, q0, q1, q2⟩ := h
  cases rx
  cases ry
  obtain ⟨its, r1, p1, _⟩ := I.tuple ha
  obtain ⟨its2, r2, p2, _⟩ := I.tuple hb
  by_cases hx : xs = []
  · subst hx
    cases r1
    exact cat0 p1 p2 ⟨.ref b, H, I, rfl, q0 rfl⟩
  · refine HT.cat_tup p1 p2 (fun z => hx (r1.nil_iff.mp z)) (fun z => ⟨.ref a, H, I, rfl, q1 (r2.nil_iff.mp z)⟩) (fun _ => ?_) ?_
    · exact new_tup I (r1.append r2) (by rw [List.length_append]; exact hz) q2
    · rw [← r1.length, ← r2.length]
      exact hz
end

/-! ### the judgements -/
abbrev TDE := En → (Da → Prop) → Prop
abbrev TDT := En → (Bool → Prop) → Prop
abbrev TDA := En → (List Da → Prop) → Prop
structure EnD where
  nx : En → Prop
  rt : Da → Prop
  bk : En → Prop := fun _ => False
  ct : En → Prop := fun _ => False
abbrev TDS := EnD → En → Prop
/-- what follows a datum -/
def Aft (K : PySem.W.Frag) (g : Option Addr) (W : Addr → Bool) (H : Hp) (Q : VK) (d : Da) : Prop :=
  ∀ v H', Ext g H H' → OkW K g W H' → Dv K g (hid W H') v d → Q v H'
def AftA (K : PySem.W.Frag) (g : Option Addr) (W : Addr → Bool) (H : Hp) (Q : List V → Hp → Prop) (ds : List Da) : Prop :=
  ∀ vs H', Ext g H H' → OkW K g W H' → DvAll K g (hid W H') vs ds → Q vs H'
def AftT (K : PySem.W.Frag) (g : Option Addr) (W : Addr → Bool) (H : Hp) (Q : Bool → Hp → Prop) (b : Bool) : Prop :=
  ∀ H', Ext g H H' → OkW K g W H' → Q b H'
def liE (K : PySem.W.Frag) (w : Wd) (t : TDE) : TE := fun σ H Q => ∃ W own r, Stt K w W own r σ H ∧ t r (Aft K w.g W H Q)
def liT (K : PySem.W.Frag) (w : Wd) (t : TDT) : TT := fun σ H Q => ∃ W own r, Stt K w W own r σ H ∧ t r (AftT K w.g W H Q)
def liA (K : PySem.W.Frag) (w : Wd) (t : TDA) : TA := fun σ H Q => ∃ W own r, Stt K w W own r σ H ∧ t r (AftA K w.g W H Q)
structure PEd (X : Cx) (w : Wd) (e : Expr) (t : TDE) : Prop where
  pe : PE X e (liE X.K w t)
  mo : ∀ r Q Q', (∀ d, Q d → Q' d) → t r Q → t r Q'
structure PTd (X : Cx) (w : Wd) (e : Expr) (t : TDT) : Prop where
  pt : PT X e (liT X.K w t)
  mo : ∀ r Q Q', (∀ b, Q b → Q' b) → t r Q → t r Q'
/-- .. and, or: whatever the whole is -/
structure PWd (X : Cx) (w : Wd) (e : Expr) (t : TDT) : Prop where
  pw : PW X e (liT X.K w t)
  mo : ∀ r Q Q', (∀ b, Q b → Q' b) → t r Q → t r Q'
structure PAd (X : Cx) (w : Wd) (es : List Expr) (t : TDA) : Prop where
  pa : PA X es (liA X.K w t)
  mo : ∀ r Q Q', (∀ d, Q d → Q' d) → t r Q → t r Q'

section
variable {X : Cx} {e a b : Expr} {es : List Expr} {pos : Pos} {w : Wd}
theorem weE {t t' : TE} (h : PE X e t) (le : ∀ σ H Q, t' σ H Q → t σ H Q) : PE X e t' := ⟨fun pins s σ H Q I q => h.run pins s σ H Q I (le _ _ _ q)⟩
theorem weT {t t' : TT} (h : PT X e t) (le : ∀ σ H Q, t' σ H Q → t σ H Q) : PT X e t' := ⟨fun pins s σ H Q I q => h.run pins s σ H Q I (le _ _ _ q)⟩
theorem weW {t t' : TT} (h : PW X e t) (le : ∀ σ H Q, t' σ H Q → t σ H Q) : PW X e t' := ⟨fun wh pins s σ H Q I q => h.run wh pins s σ H Q I (le _ _ _ q)⟩
theorem weA {t t' : TA} (h : PA X es t) (le : ∀ σ H Q, t' σ H Q → t σ H Q) : PA X es t' := ⟨fun p pins s σ H Q I q => h.run p pins s σ H Q I (le _ _ _ q)⟩
theorem PWd.pt {t : TDT} (h : PWd X w e t) : PTd X w e t := ⟨PW.pt h.pw, h.mo⟩

/-! one part, then something -/
theorem go1 {ta : TDE} (ha : PEd X w a ta) {W : Addr → Bool} {own : Nat → Option Addr} {r : En} {σ : L2.St} {H : Hp} (S : Stt X.K w W own r σ H) {P : Da → Prop} {R : V → Hp → Prop} (h : ta r P)
    (k : ∀ x v H1, Ext w.g H H1 → OkW X.K w.g W H1 → Dv X.K w.g (hid W H1) v x → P x → R v H1) : liE X.K w ta σ H R :=
  ⟨W, own, r, S, ha.mo _ _ _ (fun x px v H1 e1 k1 d1 => k x v H1 e1 k1 d1 px) h⟩
theorem go2 {ta tb : TDE} (ha : PEd X w a ta) (hb : PEd X w b tb) {W : Addr → Bool} {own : Nat → Option Addr} {r : En} {σ : L2.St} {H : Hp} (S : Stt X.K w W own r σ H) {P : Da → Da → Prop} {R : V → V → Hp → Prop} (h : ta r fun x => tb r fun y => P x y)
    (k : ∀ x y v u H1, Ext w.g H H1 → OkW X.K w.g W H1 → Dv X.K w.g (hid W H1) v x → Dv X.K w.g (hid W H1) u y → P x y → R v u H1) :
    liE X.K w ta σ H fun v H1 => liE X.K w tb σ H1 fun u H2 => R v u H2 :=
  go1 ha S h fun x v H1 e1 k1 d1 px => go1 hb (S.ext e1 k1) px fun y u H2 e2 k2 d2 py => k x y v u H2 (e1.trans e2) k2 (Dv.mono (e2.hid k1.gW) _ _ d1) d2 py
theorem goA {t : TDA} (ha : PAd X w es t) {W : Addr → Bool} {own : Nat → Option Addr} {r : En} {σ : L2.St} {H : Hp} (S : Stt X.K w W own r σ H) {P : List Da → Prop} {R : List V → Hp → Prop} (h : t r P)
    (k : ∀ xs vs H1, Ext w.g H H1 → OkW X.K w.g W H1 → DvAll X.K w.g (hid W H1) vs xs → P xs → R vs H1) : liA X.K w t σ H R :=
  ⟨W, own, r, S, ha.mo _ _ _ (fun x px v H1 e1 k1 d1 => k x v H1 e1 k1 d1 px) h⟩
theorem Aft.then {K : PySem.W.Frag} {g : Option Addr} {W : Addr → Bool} {H H1 : Hp} {Q : VK} {d : Da} (h : Aft K g W H Q d) (e : Ext g H H1) : Aft K g W H1 Q d := fun v H' e' k dv => h v H' (e.trans e') k dv

/-! ### names and constants -/
def dVar (i : Nat) : TDE := fun r Q => ∃ d, r[i]? = some (.dat d) ∧ Q d
def dC (d : Da) : TDE := fun _ Q => Q d
theorem ped_var (i : Nat) {x : Str} {p : Pos} (hN : X.N[i]? = some x := by rfl) (hv : Vis X.env.scope x := by first | exact Or.inl rfl | exact Or.inr (Or.inl rfl) | exact Or.inr (Or.inr rfl)) (hd : (x == ("__debug__" : Str)) = false := by decide)
    (hcd : (x == ("__classdict__" : Str)) = false := by decide) : PEd X w (.Name x p) (dVar i) := by
  refine ⟨weE (pe_var hN hv hd hcd) ?_, fun r Q Q' q ⟨d, h1, h2⟩ => ⟨d, h1, q d h2⟩⟩
  rintro σ H Q ⟨W, own, r, S, d, h1, h2⟩
  obtain ⟨v, e1, dv⟩ := S.dat h1
  exact ⟨v, e1, h2 v H Ext.refl S.ok dv⟩
theorem ped_c {t : TE} {d : Da} {v : V} (h : PE X e t) (ht : ∀ σ H Q, Q v H → t σ H Q) (hd : ∀ K g H, Dv K g H v d) : PEd X w e (dC d) := by
  refine ⟨weE h ?_, fun r Q Q' q h => q d h⟩
  rintro σ H Q ⟨W, own, r, S, h1⟩
  exact ht σ H Q (h1 v H Ext.refl S.ok (hd _ _ _))
theorem ped_int {i j p} : PEd X w (.Constant (.int i) j p) (dC (.int i)) := ped_c pe_int (fun _ _ _ q => q) fun _ _ _ => .int i
theorem ped_bl {i j p} : PEd X w (.Constant (.bool i) j p) (dC (.bl i)) := ped_c pe_bl (fun _ _ _ q => q) fun _ _ _ => .bl i
theorem ped_non {j p} : PEd X w (.Constant .none j p) (dC .non) := ped_c pe_non (fun _ _ _ q => q) fun _ _ _ => .non
theorem ped_str {i j p} : PEd X w (.Constant (.str i) j p) (dC (.str i)) := ped_c pe_str (fun _ _ _ q => q) fun _ _ _ => .str i

/-! ### two operands -/
abbrev DD := Da → Da → (Da → Prop) → Prop
def Mo2 (D : DD) : Prop := ∀ x y Q Q', (∀ d, Q d → Q' d) → D x y Q → D x y Q'
def Br2 (K : PySem.W.Frag) (R : R2) (D : DD) : Prop := ∀ (g : Option Addr) (W : Addr → Bool) (H : Hp) (v u : V) (x y : Da) (Q : VK), OkW K g W H → Dv K g (hid W H) v x → Dv K g (hid W H) u y → D x y (Aft K g W H Q) → R v u H Q
def dOp (D : DD) (ta tb : TDE) : TDE := fun r Q => ta r fun x => tb r fun y => D x y Q
theorem dOp_mo {D : DD} (m : Mo2 D) {ta tb : TDE} (ha : PEd X w a ta) (hb : PEd X w b tb) : ∀ r Q Q', (∀ d, Q d → Q' d) → dOp D ta tb r Q → dOp D ta tb r Q' :=
  fun r Q Q' q h => ha.mo _ _ _ (fun x hx => hb.mo _ _ _ (fun y hy => m x y _ _ q hy) hx) h
theorem mo_aft {D : DD} (m : Mo2 D) {K : PySem.W.Frag} {g : Option Addr} {W : Addr → Bool} {H H1 : Hp} {Q : VK} {x y : Da} (e : Ext g H H1) (h : D x y (Aft K g W H Q)) : D x y (Aft K g W H1 Q) := m _ _ _ _ (fun d q => q.then e) h
theorem ped_bin {op : Operator} {R : R2} {D : DD} {ta tb : TDE} (ho : OpR X (binaryOp op) R) (m : Mo2 D) (br : Br2 X.K R D) (ha : PEd X w a ta) (hb : PEd X w b tb) : PEd X w (.BinOp a op b pos) (dOp D ta tb) := by
  refine ⟨weE (pe_op ho ha.pe hb.pe) ?_, dOp_mo m ha hb⟩
  rintro σ H Q ⟨W, own, r, S, h⟩
  exact go2 ha hb S h fun x y v u H1 e1 k1 d1 d2 p => br _ _ _ _ _ _ _ _ k1 d1 d2 (mo_aft m e1 p)
theorem ped_cmp {op : CmpOp} {R : R2} {D : DD} {ta tb : TDE} (ho : OpR X (compareOp op) R) (hm : behindInMarks op b = false) (m : Mo2 D) (br : Br2 X.K R D) (ha : PEd X w a ta) (hb : PEd X w b tb) : PEd X w (.Compare a [op] [b] pos) (dOp D ta tb) := by
  refine ⟨weE (pe_cmpR ho ha.pe hb.pe hm) ?_, dOp_mo m ha hb⟩
  rintro σ H Q ⟨W, own, r, S, h⟩
  exact go2 ha hb S h fun x y v u H1 e1 k1 d1 d2 p => br _ _ _ _ _ _ _ _ k1 d1 d2 (mo_aft m e1 p)
theorem ped_ix {R : R2} {D : DD} {ta tb : TDE} (ho : IxR X R) (hs : PlainIx b) (m : Mo2 D) (br : Br2 X.K R D) (ha : PEd X w a ta) (hb : PEd X w b tb) : PEd X w (.Subscript a b pos) (dOp D ta tb) := by
  refine ⟨weE (pe_ix ho ha.pe hb.pe hs) ?_, dOp_mo m ha hb⟩
  rintro σ H Q ⟨W, own, r, S, h⟩
  exact go2 ha hb S h fun x y v u H1 e1 k1 d1 d2 p => br _ _ _ _ _ _ _ _ k1 d1 d2 (mo_aft m e1 p)
/-- one operand -/
abbrev D1 := Da → (Da → Prop) → Prop
def Mo1 (D : D1) : Prop := ∀ x Q Q', (∀ d, Q d → Q' d) → D x Q → D x Q'
def Br1 (K : PySem.W.Frag) (R : V → Hp → VK → Prop) (D : D1) : Prop := ∀ (g : Option Addr) (W : Addr → Bool) (H : Hp) (v : V) (x : Da) (Q : VK), OkW K g W H → Dv K g (hid W H) v x → D x (Aft K g W H Q) → R v H Q
def dUn (D : D1) (ta : TDE) : TDE := fun r Q => ta r fun x => D x Q
theorem ped_un {op : UnaryOp} {R : V → Hp → VK → Prop} {D : D1} {ta : TDE} (ho : UnR X (unaryOp op) R) (m : Mo1 D) (br : Br1 X.K R D) (ha : PEd X w a ta) : PEd X w (.UnaryOp op a pos) (dUn D ta) := by
  refine ⟨weE (pe_un ho ha.pe) ?_, fun r Q Q' q h => ha.mo _ _ _ (fun x hx => m x _ _ q hx) h⟩
  rintro σ H Q ⟨W, own, r, S, h⟩
  exact go1 ha S h fun x v H1 e1 k1 d1 p => br _ _ _ _ _ _ k1 d1 (m _ _ _ (fun d q => q.then e1) p)
end
end Pd
/-! Operators on data. -/
namespace Pd
open PySem PySem.Spec PyProof.Rows L2

/-! ### data as the library's -/
mutual
def toP : Da → PyData
  | .non => .none
  | .bl b => .bool b
  | .int i => .int i
  | .str x => .str x
  | .lst xs => .list (toPs xs)
  | .tup xs => .tuple (toPs xs)
  | .tpw xs => .tuple (toPs xs)
  | .dct _ => .dict []
  | .bag => .dict []
  | .raw _ => .dict []
def toPs : List Da → List PyData
  | [] => []
  | x :: xs => toP x :: toPs xs
end
theorem toPs_map : ∀ xs : List Da, toPs xs = xs.map toP
  | [] => by simp [toPs]
  | x :: xs => by simp [toPs, toPs_map xs]
mutual
def canP : Da → Bool
  | .non => true
  | .bl _ => true
  | .int _ => true
  | .str _ => true
  | .lst xs => canPs xs
  | .tup xs => canPs xs
  | .tpw xs => canPs xs
  | .dct _ => false
  | .bag => false
  | .raw _ => false
def canPs : List Da → Bool
  | [] => true
  | x :: xs => canP x && canPs xs
end
theorem canPs_all : ∀ xs : List Da, canPs xs = xs.all canP
  | [] => by simp [canPs]
  | x :: xs => by simp [canPs, canPs_all xs]
mutual
theorem Dv.dp {K : PySem.W.Frag} {g : Option Addr} {H : Hp} : ∀ (d : Da) (v : V), Dv K g H v d → canP d = true → Dp K H v (toP d)
  | .non, _, h, _ => by cases h; exact .non
  | .bl _, _, h, _ => by cases h; exact .bl _
  | .int _, _, h, _ => by cases h; exact .int _
  | .str _, _, h, _ => by cases h; exact .str _
  | .lst ds, _, h, c => by
    cases h with
    | lst h1 h2 =>
      rw [toP]
      exact .lst (SqL.of h1) (DvAll.dp ds _ h2 (by rw [canP] at c; exact c))
  | .tup ds, _, h, c => by
    cases h with
    | tup h1 h2 =>
      rw [toP]
      exact .tup h1.sq (DvAll.dp ds _ h2 (by rw [canP] at c; exact c))
  | .tpw ds, _, h, c => by
    cases h with
    | tpw h1 h2 =>
      rw [toP]
      exact .tup h1 (DvAll.dp ds _ h2 (by rw [canP] at c; exact c))
  | .dct _, _, _, c => by rw [canP] at c; cases c
  | .bag, _, _, c => by rw [canP] at c; cases c
  | .raw _, _, _, c => by rw [canP] at c; cases c
theorem DvAll.dp {K : PySem.W.Frag} {g : Option Addr} {H : Hp} : ∀ (ds : List Da) (vs : List V), DvAll K g H vs ds → canPs ds = true → DpAll K H vs (toPs ds)
  | [], _, h, _ => by cases h; rw [toPs]; exact .nil
  | d :: ds, _, h, c => by
    cases h with
    | cons h1 h2 =>
      rw [canPs, Bool.and_eq_true] at c
      rw [toPs]
      exact .cons (Dv.dp d _ h1 c.1) (DvAll.dp ds _ h2 c.2)
end
/-- comparable by == -/
def shp (d : Da) : Bool := canP d && SeqAt.shaped (toP d)
/-- == -/
def eqd (x y : Da) : Bool := PyData.eqv (toP x) (toP y)

section
variable {K : PySem.W.Frag} {g : Option Addr} {W : Addr → Bool} {H : Hp} {Q : VK}
theorem Aft.now {d : Da} {v : V} (h : Aft K g W H Q d) (k : OkW K g W H) (dv : Dv K g (hid W H) v d) : Q v H := h v H Ext.refl k dv
theorem Aft.newL {p : Addr} {xs : List V} {ds : List Da} (h : Aft K g W H Q (.lst ds)) (k : OkW K g W H) (np : H p = none) (dv : DvAll K g (hid W H) xs ds) : Q (.ref p) (upd H p (.lst xs)) := by
  obtain ⟨e, k', s, q⟩ := k.new (o := .lst xs) np
  exact h _ _ e k' (.lst q (DvAll.mono s _ _ dv))
theorem Aft.newT {xs : List V} {ds : List Da} (h : Aft K g W H Q (.tup ds)) (k : OkW K g W H) (dv : DvAll K g (hid W H) xs ds) : NewT xs H Q := by
  intro p o np no
  obtain ⟨e, k', s, q⟩ := k.new (o := .frz o (.tup xs)) np
  exact h _ _ e k' (.tup (.inl ⟨o, q, no⟩) (DvAll.mono s _ _ dv))
theorem Aft.newW {p : Addr} {xs : List V} {ds : List Da} (h : Aft K g W H Q (.tpw ds)) (k : OkW K g W H) (np : H p = none) (dv : DvAll K g (hid W H) xs ds) : Q (.ref p) (upd H p (.tup xs)) := by
  obtain ⟨e, k', s, q⟩ := k.new (o := .tup xs) np
  exact h _ _ e k' (.tpw (.inl (.inl q)) (DvAll.mono s _ _ dv))
theorem sq_hid {a : Addr} {xs : List V} (h : SqT K (hid W H) a xs) : SqT K H a xs := sqt_mono hid_sub h
end

/-! ### + -/
def addD : DD := fun x y Q => match x, y with
  | .int i, .int j => Q (.int (i + j))
  | .str a, .str b => a.length + b.length ≤ sizeLine ∧ Q (.str (a ++ b))
  | .lst xs, .lst ys => xs.length + ys.length ≤ sizeLine ∧ Q (.lst (xs ++ ys))
  | .tup xs, .tup ys => xs.length + ys.length ≤ sizeLine ∧ Q (.tup (xs ++ ys))
  | _, _ => False
theorem addD_mo : Mo2 addD := by
  intro x y Q Q' q h
  unfold addD at h ⊢
  split at h
  · exact q _ h
  · exact ⟨h.1, q _ h.2⟩
  · exact ⟨h.1, q _ h.2⟩
  · exact ⟨h.1, q _ h.2⟩
  · exact h.elim
def rAddU (K : PySem.W.Frag) : R2 := fun x y H Q => ((rI0 (fun i j => .int (i + j)) x y H Q ∨ (∃ i j, x = .str i ∧ y = .str j ∧ i.length + j.length ≤ sizeLine ∧ Q (.str (i ++ j)) H)) ∨ rCat x y H Q) ∨ rCatS K x y H Q
section
variable {X : Cx}
theorem op_addU : OpR X (binaryOp .Add) (rAddU X.K) := ((op_add.or op_add_str).or op_cat).or (op_catS fun h1 h2 h3 => cat_tup0 h1 h2 h3)
theorem addD_br : Br2 X.K (rAddU X.K) addD := by
  intro g W H v u x y Q k dx dy h
  unfold addD at h
  split at h
  · cases dx; cases dy
    exact .inl (.inl (.inl ⟨_, _, rfl, rfl, h.now k (.int _)⟩))
  · cases dx; cases dy
    exact .inl (.inl (.inr ⟨_, _, rfl, rfl, h.1, h.2.now k (.str _)⟩))
  · cases dx with
    | lst a1 a2 =>
      cases dy with
      | lst b1 b2 =>
        exact .inl (.inr ⟨_, _, _, _, rfl, rfl, (hid_some a1).2, (hid_some b1).2, by rw [a2.len, b2.len]; exact h.1, fun p np => h.2.newL k np (a2.app b2)⟩)
  · cases dx with
    | tup a1 a2 =>
      cases dy with
      | tup b1 b2 =>
        refine .inr ⟨_, _, _, _, rfl, rfl, sq_hid a1.sq, sq_hid b1.sq, by rw [a2.len, b2.len]; exact h.1, fun z => ?_, fun z => ?_, h.2.newT k (a2.app b2)⟩
        · subst z
          cases a2
          exact h.2.now k (.tup b1 b2)
        · subst z
          cases b2
          exact h.2.now k (by rw [List.append_nil]; exact .tup a1 a2)
  · exact h.elim
end

/-! ### ints -/
def intD (C : Int → Int → Prop) (f : Int → Int → Int) : DD := fun x y Q => match x, y with
  | .int i, .int j => C i j ∧ Q (.int (f i j))
  | _, _ => False
theorem intD_mo {C : Int → Int → Prop} {f : Int → Int → Int} : Mo2 (intD C f) := by
  intro x y Q Q' q h
  unfold intD at h ⊢
  split at h
  · exact ⟨h.1, q _ h.2⟩
  · exact h.elim
theorem intD_br {K : PySem.W.Frag} {C : Int → Int → Prop} {f : Int → Int → Int} : Br2 K (rI C fun i j => .int (f i j)) (intD C f) := by
  intro g W H v u x y Q k dx dy h
  unfold intD at h
  split at h
  · cases dx; cases dy
    exact ⟨_, _, rfl, rfl, h.1, h.2.now k (.int _)⟩
  · exact h.elim
def CMulA (i j : Int) : Prop := CMul i j ∨ CMulW i j
def CDivA (i j : Int) : Prop := CDiv i j ∨ CDivW i j
def subD : DD := intD (fun _ _ => True) fun i j => i - j
def mulD : DD := intD CMulA fun i j => i * j
def fdivD : DD := intD CDivA fun i j => i / j
def modD : DD := intD (fun _ j => 0 < j) fun i j => i % j
def powD : DD := intD CPow fun i j => i ^ j.toNat
section
variable {X : Cx}
theorem rI_or {C C' : Int → Int → Prop} {f : Int → Int → V} {h : Value → Value → Sem Value} (a : OpR X h (rI C f)) (b : OpR X h (rI C' f)) : OpR X h (rI (fun i j => C i j ∨ C' i j) f) := by
  intro pins s σ H x y v u Q I rx ry q
  obtain ⟨i, j, e1, e2, c, q⟩ := q
  rcases c with c | c
  · exact a pins s σ H x y v u Q I rx ry ⟨i, j, e1, e2, c, q⟩
  · exact b pins s σ H x y v u Q I rx ry ⟨i, j, e1, e2, c, q⟩
theorem op_subT : OpR X (binaryOp .Sub) (rI (fun _ _ => True) fun i j => .int (i - j)) := by
  intro pins s σ H x y v u Q I rx ry q
  obtain ⟨i, j, e1, e2, _, q⟩ := q
  exact op_sub pins s σ H x y v u Q I rx ry ⟨i, j, e1, e2, q⟩
end
section
variable {X : Cx} {w : Wd} {a b : Expr} {pos : Pos} {ta tb : TDE}
theorem ped_add (ha : PEd X w a ta) (hb : PEd X w b tb) : PEd X w (.BinOp a .Add b pos) (dOp addD ta tb) := ped_bin op_addU addD_mo addD_br ha hb
theorem ped_sub (ha : PEd X w a ta) (hb : PEd X w b tb) : PEd X w (.BinOp a .Sub b pos) (dOp subD ta tb) := ped_bin op_subT intD_mo intD_br ha hb
theorem ped_mul (ha : PEd X w a ta) (hb : PEd X w b tb) : PEd X w (.BinOp a .Mult b pos) (dOp mulD ta tb) := ped_bin (rI_or op_mul op_mulW) intD_mo intD_br ha hb
theorem ped_fdiv (ha : PEd X w a ta) (hb : PEd X w b tb) : PEd X w (.BinOp a .FloorDiv b pos) (dOp fdivD ta tb) := ped_bin (rI_or op_fdiv op_fdivW) intD_mo intD_br ha hb
theorem ped_mod (ha : PEd X w a ta) (hb : PEd X w b tb) : PEd X w (.BinOp a .Mod b pos) (dOp modD ta tb) := ped_bin op_mod intD_mo intD_br ha hb
theorem ped_pow (ha : PEd X w a ta) (hb : PEd X w b tb) : PEd X w (.BinOp a .Pow b pos) (dOp powD ta tb) := ped_bin op_pow intD_mo intD_br ha hb
/-- [..] * n -/
def repD : DD := fun x y Q => match x, y with
  | .lst xs, .int n => -(2 ^ 63) ≤ n ∧ n < 2 ^ 63 ∧ xs.length * n.toNat ≤ sizeLine ∧ Q (.lst (List.replicate n.toNat xs).flatten)
  | _, _ => False
theorem repD_mo : Mo2 repD := by
  intro x y Q Q' q h
  unfold repD at h ⊢
  split at h
  · exact ⟨h.1, h.2.1, h.2.2.1, q _ h.2.2.2⟩
  · exact h.elim
theorem DvAll.rep {K : PySem.W.Frag} {g : Option Addr} {H : Hp} {xs : List V} {ds : List Da} (h : DvAll K g H xs ds) : ∀ n : Nat, DvAll K g H (List.replicate n xs).flatten (List.replicate n ds).flatten
  | 0 => .nil
  | n + 1 => by
    rw [List.replicate_succ, List.replicate_succ, List.flatten_cons, List.flatten_cons]
    exact h.app (h.rep n)
theorem repD_br : Br2 X.K rRep repD := by
  intro g W H v u x y Q k dx dy h
  unfold repD at h
  split at h
  · cases dy
    cases dx with
    | lst a1 a2 =>
      obtain ⟨h1, h2, h3, h4⟩ := h
      exact ⟨_, _, _, rfl, rfl, (hid_some a1).2, h1, h2, by rw [a2.len]; exact h3, fun p np => h4.newL k np (a2.rep _)⟩
  · exact h.elim
theorem ped_rep (ha : PEd X w a ta) (hb : PEd X w b tb) : PEd X w (.BinOp a .Mult b pos) (dOp repD ta tb) := ped_bin op_rep repD_mo repD_br ha hb
/-- -n -/
def negD : D1 := fun x Q => match x with
  | .int i => Q (.int (-i))
  | _ => False
theorem negD_mo : Mo1 negD := by
  intro x Q Q' q h
  unfold negD at h ⊢
  split at h
  · exact q _ h
  · exact h.elim
theorem ped_neg (ha : PEd X w a ta) : PEd X w (.UnaryOp .USub a pos) (dUn negD ta) := by
  refine ped_un un_neg negD_mo ?_ ha
  intro g W H v x Q k dx h
  unfold negD at h
  split at h
  · cases dx
    exact ⟨_, rfl, h.now k (.int _)⟩
  · exact h.elim
end

/-! ### comparisons -/
def eqD (neg : Bool) : DD := fun x y Q => shp x = true ∧ shp y = true ∧ Q (.bl (if neg then !eqd x y else eqd x y))
theorem eqD_mo {n : Bool} : Mo2 (eqD n) := fun _ _ _ _ q h => ⟨h.1, h.2.1, q _ h.2.2⟩
def ordD (fi : Int → Int → Bool) (fs : Str → Str → Bool) : DD := fun x y Q => match x, y with
  | .int i, .int j => Q (.bl (fi i j))
  | .str i, .str j => Q (.bl (fs i j))
  | _, _ => False
theorem ordD_mo {fi : Int → Int → Bool} {fs : Str → Str → Bool} : Mo2 (ordD fi fs) := by
  intro x y Q Q' q h
  unfold ordD at h ⊢
  split at h
  · exact q _ h
  · exact q _ h
  · exact h.elim
def ltS (a b : Str) : Bool := decide (a.cps.toList < b.cps.toList)
def ltD : DD := ordD (fun i j => decide (i < j)) fun a b => ltS a b
def leD : DD := ordD (fun i j => decide (i ≤ j)) fun a b => !ltS b a
def gtD : DD := ordD (fun i j => decide (j < i)) fun a b => ltS b a
def geD : DD := ordD (fun i j => decide (j ≤ i)) fun a b => !ltS a b
section
variable {X : Cx} {w : Wd} {a b : Expr} {pos : Pos} {ta tb : TDE}
theorem ordD_br {fi : Int → Int → Bool} {fs : Str → Str → Bool} : Br2 X.K (fun x y H Q => rI0 (fun i j => .bl (fi i j)) x y H Q ∨ ∃ i j, x = .str i ∧ y = .str j ∧ Q (.bl (fs i j)) H) (ordD fi fs) := by
  intro g W H v u x y Q k dx dy h
  unfold ordD at h
  split at h
  · cases dx; cases dy
    exact .inl ⟨_, _, rfl, rfl, h.now k (.bl _)⟩
  · cases dx; cases dy
    exact .inr ⟨_, _, rfl, rfl, h.now k (.bl _)⟩
  · exact h.elim
theorem shp_dp {K : PySem.W.Frag} {g : Option Addr} {W : Addr → Bool} {H : Hp} {v : V} {d : Da} (h : Dv K g (hid W H) v d) (s : shp d = true) : Dp K H v (toP d) ∧ SeqAt.shaped (toP d) = true := by
  unfold shp at s
  rw [Bool.and_eq_true] at s
  exact ⟨Dv.dp d _ (Dv.mono hid_sub _ _ h) s.1, s.2⟩
theorem eqD_br : Br2 X.K (rEqD X.K) (eqD false) := by
  intro g W H v u x y Q k dx dy h
  obtain ⟨h1, h2, h3⟩ := h
  obtain ⟨a1, a2⟩ := shp_dp dx h1
  obtain ⟨b1, b2⟩ := shp_dp dy h2
  exact ⟨_, _, a1, b1, a2, b2, h3.now k (.bl _)⟩
theorem neD_br : Br2 X.K (rNeD X.K) (eqD true) := by
  intro g W H v u x y Q k dx dy h
  obtain ⟨h1, h2, h3⟩ := h
  obtain ⟨a1, a2⟩ := shp_dp dx h1
  obtain ⟨b1, b2⟩ := shp_dp dy h2
  exact ⟨_, _, a1, b1, a2, b2, h3.now k (.bl _)⟩
theorem ped_eq {k : Nat} (hr : Room k X.A) (ha : PEd X w a ta) (hb : PEd X w b tb) : PEd X w (.Compare a [.Eq] [b] pos) (dOp (eqD false) ta tb) := ped_cmp (op_eqD hr.units) (nobehind _ (by decide) (by decide)) eqD_mo eqD_br ha hb
theorem ped_ne {k : Nat} (hr : Room k X.A) (ha : PEd X w a ta) (hb : PEd X w b tb) : PEd X w (.Compare a [.NotEq] [b] pos) (dOp (eqD true) ta tb) := ped_cmp (op_neD hr.units) (nobehind _ (by decide) (by decide)) eqD_mo neD_br ha hb
theorem ped_lt (ha : PEd X w a ta) (hb : PEd X w b tb) : PEd X w (.Compare a [.Lt] [b] pos) (dOp ltD ta tb) := ped_cmp (op_lt.or op_lt_str) (nobehind _ (by decide) (by decide)) ordD_mo ordD_br ha hb
theorem ped_le (ha : PEd X w a ta) (hb : PEd X w b tb) : PEd X w (.Compare a [.LtE] [b] pos) (dOp leD ta tb) := ped_cmp (op_le.or op_le_str) (nobehind _ (by decide) (by decide)) ordD_mo ordD_br ha hb
theorem ped_gt (ha : PEd X w a ta) (hb : PEd X w b tb) : PEd X w (.Compare a [.Gt] [b] pos) (dOp gtD ta tb) := ped_cmp (op_gt.or op_gt_str) (nobehind _ (by decide) (by decide)) ordD_mo ordD_br ha hb
theorem ped_ge (ha : PEd X w a ta) (hb : PEd X w b tb) : PEd X w (.Compare a [.GtE] [b] pos) (dOp geD ta tb) := ped_cmp (op_ge.or op_ge_str) (nobehind _ (by decide) (by decide)) ordD_mo ordD_br ha hb
end

/-! ### items -/
def ixD : DD := fun x y Q => match x, y with
  | .lst xs, .int i => ∃ d, atI xs i = some d ∧ Q d
  | .tup xs, .int i => ∃ d, atI xs i = some d ∧ Q d
  | .tpw xs, .int i => ∃ d, atI xs i = some d ∧ Q d
  | .str z, .int i => z.length ≤ sizeLine ∧ ∃ c, atI z.cps.toList i = some c ∧ Q (.str ⟨#[c]⟩)
  | _, _ => False
theorem ixD_mo : Mo2 ixD := by
  intro x y Q Q' q h
  unfold ixD at h ⊢
  split at h
  · obtain ⟨d, h1, h2⟩ := h; exact ⟨d, h1, q _ h2⟩
  · obtain ⟨d, h1, h2⟩ := h; exact ⟨d, h1, q _ h2⟩
  · obtain ⟨d, h1, h2⟩ := h; exact ⟨d, h1, q _ h2⟩
  · obtain ⟨h0, d, h1, h2⟩ := h; exact ⟨h0, d, h1, q _ h2⟩
  · exact h.elim
theorem DvAll.atI {K : PySem.W.Frag} {g : Option Addr} {H : Hp} {xs : List V} {ds : List Da} {i : Int} {d : Da} (h : DvAll K g H xs ds) (e : L2.atI ds i = some d) : ∃ v, L2.atI xs i = some v ∧ Dv K g H v d := by
  unfold L2.atI at e ⊢
  rw [h.len]
  cases q : ixN ds.length i with
  | none => rw [q] at e; cases e
  | some j =>
    rw [q] at e
    exact h.at (show ds[j]? = some d from e)
section
variable {X : Cx} {w : Wd} {a b : Expr} {pos : Pos} {ta tb : TDE}
theorem ixD_br : Br2 X.K (rIx X.K) ixD := by
  intro g W H v u x y Q k dx dy h
  unfold ixD at h
  split at h
  · cases dy
    cases dx with
    | lst a1 a2 =>
      obtain ⟨d, h1, h2⟩ := h
      obtain ⟨z, z1, z2⟩ := a2.atI h1
      exact .inl ⟨_, _, _, z, rfl, rfl, SqL.of (hid_some a1).2, z1, h2.now k z2⟩
  · cases dy
    cases dx with
    | tup a1 a2 =>
      obtain ⟨d, h1, h2⟩ := h
      obtain ⟨z, z1, z2⟩ := a2.atI h1
      exact .inr (.inl ⟨_, _, _, z, rfl, rfl, sq_hid a1.sq, z1, h2.now k z2⟩)
  · cases dy
    cases dx with
    | tpw a1 a2 =>
      obtain ⟨d, h1, h2⟩ := h
      obtain ⟨z, z1, z2⟩ := a2.atI h1
      exact .inr (.inl ⟨_, _, _, z, rfl, rfl, sq_hid a1, z1, h2.now k z2⟩)
  · cases dy
    cases dx
    obtain ⟨h0, c, h1, h2⟩ := h
    exact .inr (.inr ⟨_, _, c, rfl, rfl, h0, h1, h2.now k (.str _)⟩)
  · exact h.elim
theorem ped_at (hs : PlainIx b) (ha : PEd X w a ta) (hb : PEd X w b tb) : PEd X w (.Subscript a b pos) (dOp ixD ta tb) := ped_ix ix_seq hs ixD_mo ixD_br ha hb
end
end Pd
/-! Tests, calls, statements, loops, comprehensions on data. -/
namespace Pd
open PySem PySem.Spec PyProof.Rows L2

/-! ### tests -/
section
variable {X : Cx} {w : Wd} {e a b : Expr} {es : List Expr} {pos : Pos} {ta tb : TDE}
def dB (t : TDE) : TDT := fun r Q => t r fun d => ∃ c, d = .bl c ∧ Q c
theorem dB_mo {t : TDE} (m : ∀ r Q Q', (∀ d, Q d → Q' d) → t r Q → t r Q') : ∀ r Q Q', (∀ b, Q b → Q' b) → dB t r Q → dB t r Q' :=
  fun r Q Q' q h => m _ _ _ (fun d ⟨c, e, z⟩ => ⟨c, e, q c z⟩) h
theorem dB_in {t : TDE} (h : PEd X w e t) {σ : L2.St} {H : Hp} {Q : Bool → Hp → Prop} (q : liT X.K w (dB t) σ H Q) : liE X.K w t σ H fun x H1 => ∃ c, x = .bl c ∧ Q c H1 := by
  obtain ⟨W, own, r, S, q⟩ := q
  refine go1 h S q fun x v H1 e1 k1 d1 p => ?_
  obtain ⟨c, rfl, p⟩ := p
  cases d1
  exact ⟨c, rfl, p H1 e1 k1⟩
/-- a test by a value that is a truth -/
theorem ptd_val {t : TDE} (h : PEd X w e t) (he : ∀ whole, isTrue e X.env whole = (do let v ← whole; standAt e.pos; holding [v] (truthy v)) := by intro _; rfl) : PTd X w e (dB t) :=
  ⟨weT (pt_val h.pe he) fun σ H Q q => dB_in h q, dB_mo h.mo⟩
theorem ptd_cmp {op : CmpOp} {R : R2} {D : DD} (ho : OpR X (compareOp op) R) (hm : behindInMarks op b = false) (m : Mo2 D) (br : Br2 X.K R D) (ha : PEd X w a ta) (hb : PEd X w b tb) : PTd X w (.Compare a [op] [b] pos) (dB (dOp D ta tb)) := by
  refine ⟨weT (pt_cmpR ho ha.pe hb.pe hm) ?_, dB_mo (dOp_mo m ha hb)⟩
  intro σ H Q q
  obtain ⟨W, own, r, S, q⟩ := q
  refine go2 ha hb S q fun x y v u H1 e1 k1 d1 d2 p => br _ _ _ _ _ _ _ _ k1 d1 d2 (m _ _ _ _ ?_ p)
  rintro d ⟨c, rfl, p⟩ v' H' e' k' d'
  cases d'
  exact ⟨c, rfl, p H' (e1.trans e') k'⟩
theorem ptd_eq {k : Nat} (hr : Room k X.A) (ha : PEd X w a ta) (hb : PEd X w b tb) : PTd X w (.Compare a [.Eq] [b] pos) (dB (dOp (eqD false) ta tb)) := ptd_cmp (op_eqD hr.units) (nobehind _ (by decide) (by decide)) eqD_mo eqD_br ha hb
theorem ptd_ne {k : Nat} (hr : Room k X.A) (ha : PEd X w a ta) (hb : PEd X w b tb) : PTd X w (.Compare a [.NotEq] [b] pos) (dB (dOp (eqD true) ta tb)) := ptd_cmp (op_neD hr.units) (nobehind _ (by decide) (by decide)) eqD_mo neD_br ha hb
theorem ptd_lt (ha : PEd X w a ta) (hb : PEd X w b tb) : PTd X w (.Compare a [.Lt] [b] pos) (dB (dOp ltD ta tb)) := ptd_cmp (op_lt.or op_lt_str) (nobehind _ (by decide) (by decide)) ordD_mo ordD_br ha hb
theorem ptd_le (ha : PEd X w a ta) (hb : PEd X w b tb) : PTd X w (.Compare a [.LtE] [b] pos) (dB (dOp leD ta tb)) := ptd_cmp (op_le.or op_le_str) (nobehind _ (by decide) (by decide)) ordD_mo ordD_br ha hb
theorem ptd_gt (ha : PEd X w a ta) (hb : PEd X w b tb) : PTd X w (.Compare a [.Gt] [b] pos) (dB (dOp gtD ta tb)) := ptd_cmp (op_gt.or op_gt_str) (nobehind _ (by decide) (by decide)) ordD_mo ordD_br ha hb
theorem ptd_ge (ha : PEd X w a ta) (hb : PEd X w b tb) : PTd X w (.Compare a [.GtE] [b] pos) (dB (dOp geD ta tb)) := ptd_cmp (op_ge.or op_ge_str) (nobehind _ (by decide) (by decide)) ordD_mo ordD_br ha hb
/-- and, or, not as tests -/
def dAnd (t u : TDT) : TDT := fun r Q => t r fun c => if c = true then u r Q else Q false
def dOr (t u : TDT) : TDT := fun r Q => t r fun c => if c = true then Q true else u r Q
def dNot (t : TDT) : TDT := fun r Q => t r fun c => Q (!c)
variable {tA tB' : TDT} {rest : List Expr}
theorem pwd_and1 (ha : PTd X w a tA) : PWd X w (.BoolOp .And [a] pos) tA := ⟨pw_and1 ha.pt, ha.mo⟩
theorem pwd_or1 (ha : PTd X w a tA) : PWd X w (.BoolOp .Or [a] pos) tA := ⟨pw_or1 ha.pt, ha.mo⟩
theorem AftT.then {K : PySem.W.Frag} {g : Option Addr} {W : Addr → Bool} {H H1 : Hp} {Q : Bool → Hp → Prop} {d : Bool} (h : AftT K g W H Q d) (e : Ext g H H1) : AftT K g W H1 Q d := fun H' e' k => h H' (e.trans e') k
theorem ite_mo {c : Prop} [Decidable c] {A B A' B' : Prop} (h1 : A → A') (h2 : B → B') (h : if c then A else B) : if c then A' else B' := by
  by_cases q : c
  · rw [if_pos q] at h ⊢; exact h1 h
  · rw [if_neg q] at h ⊢; exact h2 h
theorem pwd_and (ha : PTd X w a tA) (hb : PWd X w (.BoolOp .And (b :: rest) pos) tB') : PWd X w (.BoolOp .And (a :: b :: rest) pos) (dAnd tA tB') := by
  refine ⟨weW (pw_and ha.pt hb.pw) ?_, fun r Q Q' q h => ha.mo _ _ _ (fun c z => ite_mo (hb.mo _ _ _ q) (q _) z) h⟩
  rintro σ H Q ⟨W, own, r, S, h⟩
  refine ⟨W, own, r, S, ha.mo _ _ _ (fun c z H1 e1 k1 => ite_mo (fun z => ?_) (fun z => z H1 e1 k1) z) h⟩
  exact ⟨W, own, r, S.ext e1 k1, hb.mo _ _ _ (fun d q => q.then e1) z⟩
theorem pwd_or (ha : PTd X w a tA) (hb : PWd X w (.BoolOp .Or (b :: rest) pos) tB') : PWd X w (.BoolOp .Or (a :: b :: rest) pos) (dOr tA tB') := by
  refine ⟨weW (pw_or ha.pt hb.pw) ?_, fun r Q Q' q h => ha.mo _ _ _ (fun c z => ite_mo (q _) (hb.mo _ _ _ q) z) h⟩
  rintro σ H Q ⟨W, own, r, S, h⟩
  refine ⟨W, own, r, S, ha.mo _ _ _ (fun c z H1 e1 k1 => ite_mo (fun z => z H1 e1 k1) (fun z => ?_) z) h⟩
  exact ⟨W, own, r, S.ext e1 k1, hb.mo _ _ _ (fun d q => q.then e1) z⟩
theorem ptd_not (ha : PTd X w a tA) : PTd X w (.UnaryOp .Not a pos) (dNot tA) := by
  refine ⟨weT (pt_not ha.pt) ?_, fun r Q Q' q h => ha.mo _ _ _ (fun c z => q _ z) h⟩
  rintro σ H Q ⟨W, own, r, S, h⟩
  exact ⟨W, own, r, S, ha.mo _ _ _ (fun c z H1 e1 k1 => z H1 e1 k1) h⟩
/-- .. as values -/
def dAndV (ta tb : TDE) : TDE := fun r Q => ta r fun d => ∃ c, d = .bl c ∧ if c = true then tb r Q else Q (.bl false)
def dOrV (ta tb : TDE) : TDE := fun r Q => ta r fun d => ∃ c, d = .bl c ∧ if c = true then Q (.bl true) else tb r Q
def dNotV (ta : TDE) : TDE := fun r Q => ta r fun d => ∃ c, d = .bl c ∧ Q (.bl (!c))
theorem ped_one {op} {t : TDE} (h : PEd X w a t) : PEd X w (.BoolOp op [a] pos) t := ⟨pe_one h.pe, h.mo⟩
theorem ped_and (ha : PEd X w a ta) (hb : PEd X w (.BoolOp .And (b :: rest) pos) tb) : PEd X w (.BoolOp .And (a :: b :: rest) pos) (dAndV ta tb) := by
  refine ⟨weE (pe_and ha.pe hb.pe) ?_, fun r Q Q' q h => ha.mo _ _ _ (fun d ⟨c, e, z⟩ => ⟨c, e, ite_mo (hb.mo _ _ _ q) (q _) z⟩) h⟩
  rintro σ H Q ⟨W, own, r, S, h⟩
  refine go1 ha S h fun x v H1 e1 k1 d1 p => ?_
  obtain ⟨c, rfl, p⟩ := p
  cases d1
  exact ⟨c, rfl, ite_mo (fun z => ⟨W, own, r, S.ext e1 k1, hb.mo _ _ _ (fun d q => q.then e1) z⟩) (fun z => (z.then e1).now k1 (.bl _)) p⟩
theorem ped_or (ha : PEd X w a ta) (hb : PEd X w (.BoolOp .Or (b :: rest) pos) tb) : PEd X w (.BoolOp .Or (a :: b :: rest) pos) (dOrV ta tb) := by
  refine ⟨weE (pe_or ha.pe hb.pe) ?_, fun r Q Q' q h => ha.mo _ _ _ (fun d ⟨c, e, z⟩ => ⟨c, e, ite_mo (q _) (hb.mo _ _ _ q) z⟩) h⟩
  rintro σ H Q ⟨W, own, r, S, h⟩
  refine go1 ha S h fun x v H1 e1 k1 d1 p => ?_
  obtain ⟨c, rfl, p⟩ := p
  cases d1
  exact ⟨c, rfl, ite_mo (fun z => (z.then e1).now k1 (.bl _)) (fun z => ⟨W, own, r, S.ext e1 k1, hb.mo _ _ _ (fun d q => q.then e1) z⟩) p⟩
theorem ped_not (ha : PEd X w a ta) : PEd X w (.UnaryOp .Not a pos) (dNotV ta) := by
  refine ⟨weE (pe_not ha.pe) ?_, fun r Q Q' q h => ha.mo _ _ _ (fun d ⟨c, e, z⟩ => ⟨c, e, q _ z⟩) h⟩
  rintro σ H Q ⟨W, own, r, S, h⟩
  refine go1 ha S h fun x v H1 e1 k1 d1 p => ?_
  obtain ⟨c, rfl, p⟩ := p
  cases d1
  exact ⟨c, rfl, (p.then e1).now k1 (.bl _)⟩
def dIfE (t : TDT) (ta tb : TDE) : TDE := fun r Q => t r fun c => if c = true then ta r Q else tb r Q
theorem ped_ifExp {c : Expr} (hc : PTd X w c tA) (ha : PEd X w a ta) (hb : PEd X w b tb) : PEd X w (.IfExp c a b pos) (dIfE tA ta tb) := by
  refine ⟨weE (pe_ifExp hc.pt ha.pe hb.pe) ?_, fun r Q Q' q h => hc.mo _ _ _ (fun d z => ite_mo (ha.mo _ _ _ q) (hb.mo _ _ _ q) z) h⟩
  rintro σ H Q ⟨W, own, r, S, h⟩
  refine ⟨W, own, r, S, hc.mo _ _ _ (fun c z H1 e1 k1 => ite_mo (fun z => ?_) (fun z => ?_) z) h⟩
  · exact ⟨W, own, r, S.ext e1 k1, ha.mo _ _ _ (fun d q => q.then e1) z⟩
  · exact ⟨W, own, r, S.ext e1 k1, hb.mo _ _ _ (fun d q => q.then e1) z⟩

/-! ### lists of expressions, displays -/
def dNil : TDA := fun _ Q => Q []
def dCons (t : TDE) (u : TDA) : TDA := fun r Q => t r fun d => u r fun ds => Q (d :: ds)
theorem pad_nil : PAd X w [] dNil := by
  refine ⟨weA pa_nil ?_, fun r Q Q' q h => q _ h⟩
  rintro σ H Q ⟨W, own, r, S, h⟩
  exact h [] H Ext.refl S.ok .nil
theorem pad_cons {t : TDE} {u : TDA} (h1 : PEd X w e t) (h2 : PAd X w es u) (he : starEach (e :: es) X.env = (false, eval e X.env) :: starEach es X.env := by rfl) : PAd X w (e :: es) (dCons t u) := by
  refine ⟨weA (pa_cons h1.pe h2.pa he) ?_, fun r Q Q' q h => h1.mo _ _ _ (fun d z => h2.mo _ _ _ (fun ds => q _) z) h⟩
  rintro σ H Q ⟨W, own, r, S, h⟩
  refine go1 h1 S h fun x v H1 e1 k1 d1 p => goA h2 (S.ext e1 k1) p fun xs vs H2 e2 k2 d2 q => ?_
  exact q (v :: vs) H2 (e1.trans e2) k2 (.cons (Dv.mono (e2.hid k1.gW) _ _ d1) d2)
def dTup (t : TDA) : TDE := fun r Q => t r fun ds => ds.length ≤ sizeLine ∧ Q (.tup ds)
def dLst (t : TDA) : TDE := fun r Q => t r fun ds => ds.length ≤ sizeLine ∧ Q (.lst ds)
theorem ped_tup {c} {t : TDA} (h : PAd X w es t) : PEd X w (.Tuple es c pos) (dTup t) := by
  refine ⟨weE (pe_tupS h.pa) ?_, fun r Q Q' q z => h.mo _ _ _ (fun d z => ⟨z.1, q _ z.2⟩) z⟩
  rintro σ H Q ⟨W, own, r, S, z⟩
  refine goA h S z fun xs vs H1 e1 k1 d1 p => ⟨by rw [d1.len]; exact p.1, (p.2.then e1).newT k1 d1⟩
theorem ped_lst {t : TDA} (h : PAd X w es t) : PEd X w (.List es pos) (dLst t) := by
  refine ⟨weE (pe_lst h.pa) ?_, fun r Q Q' q z => h.mo _ _ _ (fun d z => ⟨z.1, q _ z.2⟩) z⟩
  rintro σ H Q ⟨W, own, r, S, z⟩
  refine goA h S z fun xs vs H1 e1 k1 d1 p => ⟨by rw [d1.len]; exact p.1, fun q np => (p.2.then e1).newL k1 np d1⟩

/-! ### calls of defs -/
abbrev DSp := List Da → (Da → Prop) → Prop
def MoP (p : DSp) : Prop := ∀ ds Q Q', (∀ d, Q d → Q' d) → p ds Q → p ds Q'
def liP (K : PySem.W.Frag) (p : DSp) : Sp := fun vs H Q _ => ∃ g W ds, OkW K g W H ∧ DvAll K g (hid W H) vs ds ∧ p ds (Aft K g W H Q)
def dCall (p : DSp) (t : TDA) : TDE := fun r Q => t r fun ds => p ds Q
theorem ped_call {x : Str} {p pos : Pos} {k : Nat} {f : Addr} {fd : FuncData} {ps : List Str} {sp : DSp} {t : TDA} {e : Expr} {es : List Expr} (F : FnG X.prog X.w X.K X.mg X.base CX0 k f fd ps (liP X.K sp)) (m : MoP sp) (room : Room k X.A) (hG : X.A.guards = some [])
    (at_x : X.mg x = some (.ref f)) (kp : PySem.W.keepIn X.K (.ref f) = true) (bd : Binds X.K fd ps []) (args : PAd X w (e :: es) t) (gl : Gl X x := by rfl) (nd : (x == ("__debug__" : Str)) = false := by decide)
    (st : starEach (e :: es) X.env = (false, eval e X.env) :: starEach es X.env := by rfl) (bk : (backTo pos (starEach es X.env)).any (·.1) = false := by rfl) :
    PEd X w (.Call (.Name x p) (e :: es) [] pos) (dCall sp t) := by
  refine ⟨weE (pe_callG (E := E0) F room hG gl at_x kp bd .nil pass0 args.pa nd st bk) ?_, fun r Q Q' q h => args.mo _ _ _ (fun ds z => m _ _ _ q z) h⟩
  rintro σ H Q ⟨W, own, r, S, h⟩
  refine goA args S h fun xs vs H1 e1 k1 d1 p => ?_
  rw [List.append_nil]
  exact ⟨w.g, W, xs, k1, d1, m _ _ _ (fun d q => q.then e1) p⟩

/-! ### calls of built-ins -/
abbrev DB := List Da → (Da → Prop) → Prop
def BrB (K : PySem.W.Frag) (R : List V → Hp → VK → Prop) (D : DB) : Prop := ∀ (g : Option Addr) (W : Addr → Bool) (H : Hp) (vs : List V) (ds : List Da) (Q : VK), OkW K g W H → DvAll K g (hid W H) vs ds → D ds (Aft K g W H Q) → R vs H Q
theorem ped_callB {x : Str} {p pos : Pos} {id : String} {R : List V → Hp → VK → Prop} {D : DB} {t : TDA} {e : Expr} {es : List Expr} (hc : CallR X (.builtin id) R) (m : MoP D) (br : BrB X.K R D) (hm : X.mg x = none) (hv : bootBuiltins x = some (.builtin id)) (args : PAd X w (e :: es) t)
    (hg : Gl X x := by rfl) (hn : x ≠ "__name__" := by decide) (hdb : (x == ("__debug__" : Str)) = false := by decide) (he : starEach (e :: es) X.env = (false, eval e X.env) :: starEach es X.env := by rfl) (hpl : (backTo pos (starEach es X.env)).any (·.1) = false := by rfl) :
    PEd X w (.Call (.Name x p) (e :: es) [] pos) (dCall D t) := by
  refine ⟨weE (pe_callB hc hg hm hv args.pa hn hdb he hpl) ?_, fun r Q Q' q h => args.mo _ _ _ (fun ds z => m _ _ _ q z) h⟩
  rintro σ H Q ⟨W, own, r, S, h⟩
  exact goA args S h fun xs vs H1 e1 k1 d1 p => br _ _ _ _ _ _ k1 d1 (m _ _ _ (fun d q => q.then e1) p)
theorem ped_callTy {x : Str} {p pos : Pos} {T : String} {R : List V → Hp → VK → Prop} {D : DB} {t : TDA} {e : Expr} {es : List Expr} (hc : CallR X (.type T) R) (m : MoP D) (br : BrB X.K R D) (hm : X.mg x = none) (hv : bootBuiltins x = some (.type T)) (args : PAd X w (e :: es) t)
    (hg : Gl X x := by rfl) (hn : x ≠ "__name__" := by decide) (hdb : (x == ("__debug__" : Str)) = false := by decide) (he : starEach (e :: es) X.env = (false, eval e X.env) :: starEach es X.env := by rfl) (hpl : (backTo pos (starEach es X.env)).any (·.1) = false := by rfl) :
    PEd X w (.Call (.Name x p) (e :: es) [] pos) (dCall D t) := by
  refine ⟨weE (pe_callTy hc hg hm hv args.pa hn hdb he hpl) ?_, fun r Q Q' q h => args.mo _ _ _ (fun ds z => m _ _ _ q z) h⟩
  rintro σ H Q ⟨W, own, r, S, h⟩
  exact goA args S h fun xs vs H1 e1 k1 d1 p => br _ _ _ _ _ _ k1 d1 (m _ _ _ (fun d q => q.then e1) p)
end
end Pd
/-! Statements, loops, comprehensions on data. -/
namespace Pd
open PySem PySem.Spec PyProof.Rows L2

/-! ### statements -/
/-- from one state to a later one -/
def Grow (g : Option Addr) (W : Addr → Bool) (H : Hp) (W' : Addr → Bool) (H' : Hp) : Prop :=
  (∀ b o, g ≠ some b → W b = false → H b = some o → H' b = some o) ∧ (∀ a, H a ≠ none → H' a ≠ none) ∧ ∀ a, W' a = true → W a = true ∨ H a = none
theorem Grow.refl {g : Option Addr} {W : Addr → Bool} {H : Hp} : Grow g W H W H := ⟨fun _ _ _ _ h => h, fun _ h => h, fun _ h => .inl h⟩
theorem Grow.trans {g : Option Addr} {W W1 W2 : Addr → Bool} {H H1 H2 : Hp} (a : Grow g W H W1 H1) (b : Grow g W1 H1 W2 H2) : Grow g W H W2 H2 := by
  refine ⟨fun c o n wf h => b.1 c o n ?_ (a.1 c o n wf h), fun c h => b.2.1 c (a.2.1 c h), fun c h => ?_⟩
  · cases q : W1 c with
    | false => rfl
    | true =>
      rcases a.2.2 c q with z | z
      · rw [wf] at z; cases z
      · rw [h] at z; cases z
  · rcases b.2.2 c h with z | z
    · exact a.2.2 c z
    · refine .inr (Classical.byContradiction fun n => a.2.1 c n z)
theorem Grow.of {K : PySem.W.Frag} {g : Option Addr} {W : Addr → Bool} {H H' : Hp} (k : OkW K g W H') (e : Ext g H H') : Grow g W H W H' :=
  ⟨fun b o n _ h => e b o n h, (fun a h => by
    by_cases z : g = some a
    · obtain ⟨o, q⟩ := k.al a (k.gW a z)
      rw [q]; intro n; cases n
    · cases q : H a with
      | none => exact absurd q h
      | some o => rw [e a o z q]; intro n; cases n), fun a h => .inl h⟩
theorem Grow.data {g : Option Addr} {W W' : Addr → Bool} {H H' : Hp} (gr : Grow g W H W' H') (gW : ∀ a, g = some a → W a = true) : Sm (hid W H) (hid W' H') := fun a o q => by
  obtain ⟨q1, q2⟩ := hid_some q
  rw [hid_no]
  · exact gr.1 a o (fun z => by rw [gW a z] at q1; cases q1) q1 q2
  · cases z : W' a with
    | false => rfl
    | true =>
      rcases gr.2.2 a z with y | y
      · rw [q1] at y; cases y
      · rw [q2] at y; cases y

def endD (K : PySem.W.Frag) (w : Wd) (W : Addr → Bool) (H : Hp) (E : Ends) : EnD where
  nx := fun r' => ∀ W' own' σ' H', Grow w.g W H W' H' → Stt K w W' own' r' σ' H' → E.nx σ' H'
  rt := fun d => ∀ v H', Ext w.g w.H0 H' → OkW K w.g w.W0 H' → Dv K w.g (hid w.W0 H') v d → E.rt v H'
  bk := fun r' => ∀ W' own' σ' H', Grow w.g W H W' H' → Stt K w W' own' r' σ' H' → E.bk σ' H'
  ct := fun r' => ∀ W' own' σ' H', Grow w.g W H W' H' → Stt K w W' own' r' σ' H' → E.ct σ' H'
def liS (K : PySem.W.Frag) (w : Wd) (t : TDS) : TS := fun E σ H => ∃ W own r, Stt K w W own r σ H ∧ t (endD K w W H E) r
/-- every end that the one wants the other gives -/
structure Le (E E' : EnD) : Prop where
  nx : ∀ r, E.nx r → E'.nx r
  rt : ∀ d, E.rt d → E'.rt d
  bk : ∀ r, E.bk r → E'.bk r
  ct : ∀ r, E.ct r → E'.ct r
theorem Le.refl {E : EnD} : Le E E := ⟨fun _ h => h, fun _ h => h, fun _ h => h, fun _ h => h⟩
def MoS (t : TDS) : Prop := ∀ E E' r, Le E E' → t E r → t E' r
structure PSd (X : Cx) (w : Wd) (st : Stmt) (t : TDS) : Prop where
  ps : PS X st (liS X.K w t)
  mo : MoS t
structure PSsd (X : Cx) (w : Wd) (st : List Stmt) (t : TDS) : Prop where
  ps : PSs X st (liS X.K w t)
  mo : MoS t
theorem endD_grow {K : PySem.W.Frag} {w : Wd} {W W1 : Addr → Bool} {H H1 : Hp} {E : Ends} (g : Grow w.g W H W1 H1) : Le (endD K w W H E) (endD K w W1 H1 E) :=
  ⟨fun _ h W' o' σ' H' g' S => h W' o' σ' H' (g.trans g') S, fun _ h => h, fun _ h W' o' σ' H' g' S => h W' o' σ' H' (g.trans g') S, fun _ h W' o' σ' H' g' S => h W' o' σ' H' (g.trans g') S⟩

section
variable {X : Cx} {w : Wd} {e a b : Expr} {st : Stmt} {sts rest : List Stmt} {pos : Pos} {t u : TDS} {te : TDE} {tt : TDT}
theorem weS {t t' : TS} (h : PS X st t) (le : ∀ D σ H, t' D σ H → t D σ H) : PS X st t' := ⟨fun pins s σ H D I q => h.run pins s σ H D I (le _ _ _ q)⟩
theorem weSs {t t' : TS} (h : PSs X sts t) (le : ∀ D σ H, t' D σ H → t D σ H) : PSs X sts t' := ⟨fun pins s σ H D I q => h.run pins s σ H D I (le _ _ _ q)⟩
def dSeq (t u : TDS) : TDS := fun E r => t { E with nx := u E } r
theorem psd_cons (h1 : PSd X w st t) (h2 : PSsd X w rest u) : PSsd X w (st :: rest) (dSeq t u) := by
  refine ⟨weSs (pss_cons h1.ps h2.ps) ?_, fun E E' r l h => h1.mo { E with nx := u E } { E' with nx := u E' } r ⟨fun r' => h2.mo E E' r' l, l.rt, l.bk, l.ct⟩ h⟩
  rintro D σ H ⟨W, own, r, S, h⟩
  refine ⟨W, own, r, S, h1.mo { endD X.K w W H D with nx := u (endD X.K w W H D) } (endD X.K w W H { D with nx := liS X.K w u D }) r ⟨fun r' z W' o' σ' H' g' S' => ?_, fun _ z => z, fun _ z => z, fun _ z => z⟩ h⟩
  exact ⟨W', o', r', S', h2.mo _ _ _ (endD_grow g') z⟩
theorem psd_one (h1 : PSd X w st t) : PSsd X w [st] t := ⟨pss_one h1.ps, h1.mo⟩
def dNext : TDS := fun E r => E.nx r
theorem psd_nil : PSsd X w [] dNext := by
  refine ⟨weSs pss_nil ?_, fun E E' r l h => l.nx r h⟩
  rintro D σ H ⟨W, own, r, S, h⟩
  exact h W own σ H .refl S
theorem psd_pass : PSd X w (.Pass pos) dNext := by
  refine ⟨weS ps_pass ?_, fun E E' r l h => l.nx r h⟩
  rintro D σ H ⟨W, own, r, S, h⟩
  exact h W own σ H .refl S
theorem psd_break : PSd X w (.Break pos) (fun E r => E.bk r) := by
  refine ⟨weS ps_break ?_, fun E E' r l h => l.bk r h⟩
  rintro D σ H ⟨W, own, r, S, h⟩
  exact h W own σ H .refl S
theorem psd_continue : PSd X w (.Continue pos) (fun E r => E.ct r) := by
  refine ⟨weS ps_continue ?_, fun E E' r l h => l.ct r h⟩
  rintro D σ H ⟨W, own, r, S, h⟩
  exact h W own σ H .refl S
def dDrop (t : TDE) : TDS := fun E r => t r fun _ => E.nx r
theorem psd_expr (he : PEd X w e te) (hs : swapsWith e none pos.line X.env = pure false := by rfl) : PSd X w (.Expr e pos) (dDrop te) := by
  refine ⟨weS (ps_expr he.pe hs) ?_, fun E E' r l h => he.mo _ _ _ (fun d => l.nx r) h⟩
  rintro D σ H ⟨W, own, r, S, h⟩
  exact go1 he S h fun x v H1 e1 k1 d1 p => p W own σ H1 (.of k1 e1) (S.ext e1 k1)
def dRet (t : TDE) : TDS := fun E r => t r E.rt
theorem ret_ok {K : PySem.W.Frag} {W : Addr → Bool} {own : Nat → Option Addr} {r : En} {σ : L2.St} {H : Hp} {E : Ends} {d : Da} {v : V} (S : Stt K w W own r σ H) (h : (endD K w W H E).rt d) (H1 : Hp) (e1 : Ext w.g H H1) (k1 : OkW K w.g W H1) (d1 : Dv K w.g (hid W H1) v d) : E.rt v H1 := by
  have z := h v H1 (S.base.trans e1)
  refine z ⟨fun c hc => ?_, S.g0, fun c hc => k1.al c (S.w0 c hc)⟩ (Dv.mono (hid_le S.w0) _ _ d1)
  obtain ⟨x, y, n, c', cs, h1, h2⟩ := k1.bag c hc
  exact ⟨x, y, n, c', cs, h1, hid_le S.w0 _ _ h2⟩
theorem psd_ret (he : PEd X w e te) : PSd X w (.Return (some e) pos) (dRet te) := by
  refine ⟨weS (ps_ret he.pe) ?_, fun E E' r l h => he.mo _ _ _ l.rt h⟩
  rintro D σ H ⟨W, own, r, S, h⟩
  exact go1 he S h fun x v H1 e1 k1 d1 p => ret_ok S p H1 e1 k1 d1
def dRetN : TDS := fun E _ => E.rt .non
theorem psd_retN : PSd X w (.Return none pos) dRetN := by
  refine ⟨weS ps_retN ?_, fun E E' r l h => l.rt _ h⟩
  rintro D σ H ⟨W, own, r, S, h⟩
  exact ret_ok S h H Ext.refl S.ok .non
def dIf (c : TDT) (t u : TDS) : TDS := fun E r => c r fun b => if b = true then t E r else u E r
theorem psd_if {c : Expr} {p q : List Stmt} (hc : PTd X w c tt) (ha : PSsd X w p t) (hb : PSsd X w q u) : PSd X w (.If c p q pos) (dIf tt t u) := by
  refine ⟨weS (ps_if hc.pt ha.ps hb.ps) ?_, fun E E' r l h => hc.mo _ _ _ (fun b => ite_mo (ha.mo E E' r l) (hb.mo E E' r l)) h⟩
  rintro D σ H ⟨W, own, r, S, h⟩
  refine ⟨W, own, r, S, hc.mo _ _ _ (fun b z H1 e1 k1 => ?_) h⟩
  have l : Le (endD X.K w W H D) (endD X.K w W H1 D) := endD_grow (.of k1 e1)
  exact ite_mo (fun z => ⟨W, own, r, S.ext e1 k1, ha.mo _ _ _ l z⟩) (fun z => ⟨W, own, r, S.ext e1 k1, hb.mo _ _ _ l z⟩) z

/-! ### targets -/
abbrev TDG := Da → En → (En → Prop) → Prop
theorem wipe_set {σ : L2.St} {i : Nat} {x : Option V} : ∀ {vs : List Nat}, i ∈ vs → L2.wipe (σ.set i x) vs = L2.wipe σ vs := by
  intro vs
  induction vs with
  | nil => intro h; cases h
  | cons v vs ih =>
    intro h
    show (L2.wipe (σ.set i x) vs).set v none = (L2.wipe σ vs).set v none
    by_cases q : i ∈ vs
    · rw [ih q]
    · have e : i = v := by rcases List.mem_cons.mp h with z | z; exact z; exact absurd z q
      subst e
      have aux : ∀ (us : List Nat) (σ : L2.St), i ∉ us → L2.wipe (σ.set i x) us = (L2.wipe σ us).set i x := by
        intro us
        induction us with
        | nil => intro σ _; rfl
        | cons z zs ih2 =>
          intro σ hz
          show (L2.wipe (σ.set i x) zs).set z none = ((L2.wipe σ zs).set z none).set i x
          rw [ih2 σ (fun y => hz (List.mem_cons_of_mem _ y)), List.set_comm]
          exact fun y => hz (by rw [y]; exact List.mem_cons_self)
      rw [aux vs σ q, List.set_set]
theorem wipe_idem (σ : L2.St) (vs : List Nat) : L2.wipe (L2.wipe σ vs) vs = L2.wipe σ vs := by
  have aux : ∀ (us vs : List Nat) (σ : L2.St), (∀ i ∈ us, i ∈ vs) → L2.wipe (L2.wipe σ us) vs = L2.wipe σ vs := by
    intro us
    induction us with
    | nil => intro vs σ _; rfl
    | cons u us ih =>
      intro vs σ h
      show L2.wipe ((L2.wipe σ us).set u none) vs = _
      rw [wipe_set (h u List.mem_cons_self)]
      exact ih vs σ fun i hi => h i (List.mem_cons_of_mem _ hi)
  exact aux vs vs σ fun _ h => h
/-- what a target does with a datum; vs: the slots it may set -/
structure GDt (K : PySem.W.Frag) (g : TG) (gd : TDG) (vs : List Nat) : Prop where
  run : ∀ (w : Wd) (W : Addr → Bool) (own : Nat → Option Addr) (r : En) (σ : L2.St) (H : Hp) (v : V) (d : Da) (Q : En → Prop), Stt K w W own r σ H → Dv K w.g (hid W H) v d → gd d r Q →
    g v σ H fun σ' H' => H' = H ∧ (∀ us, (∀ i ∈ vs, i ∈ us) → L2.wipe σ' us = L2.wipe σ us) ∧ ∃ own' r', Stt K w W own' r' σ' H ∧ Q r'
  mo : ∀ d r Q Q', (∀ r, Q r → Q' r) → gd d r Q → gd d r Q'
def dgName (i : Nat) : TDG := fun d r Q => Q (r.set i (.dat d))
theorem gd_name {K : PySem.W.Frag} (i : Nat) : GDt K (gName i) (dgName i) [i] := by
  refine ⟨fun w W own r σ H v d Q S dv h => ?_, fun d r Q Q' q h => q _ h⟩
  obtain ⟨own', S'⟩ := S.set (i := i) dv
  exact ⟨rfl, fun us hu => wipe_set (hu i List.mem_cons_self), own', _, S', h⟩
/-- a, b = a pair -/
def itemsOf : Da → Option (List Da)
  | .tup xs => some xs
  | .tpw xs => some xs
  | _ => none
def dgTup2 (i j : Nat) : TDG := fun d r Q => ∃ x y, itemsOf d = some [x, y] ∧ Q ((r.set i (.dat x)).set j (.dat y))
theorem items_sq {K : PySem.W.Frag} {g : Option Addr} {W : Addr → Bool} {H : Hp} {v : V} {d : Da} {ds : List Da} (h : Dv K g (hid W H) v d) (e : itemsOf d = some ds) : ∃ a xs, v = .ref a ∧ SqT K H a xs ∧ DvAll K g (hid W H) xs ds := by
  unfold itemsOf at e
  split at e
  · cases e
    cases h with
    | tup h1 h2 => exact ⟨_, _, rfl, sq_hid h1.sq, h2⟩
  · cases e
    cases h with
    | tpw h1 h2 => exact ⟨_, _, rfl, sq_hid h1, h2⟩
  · cases e
theorem gd_tup2 {K : PySem.W.Frag} (i j : Nat) : GDt K (gTup K 2 (gCons (gName i) (gCons (gName j) gNil))) (dgTup2 i j) [i, j] := by
  refine ⟨fun w W own r σ H v d Q S dv h => ?_, fun d r Q Q' q ⟨x, y, e, z⟩ => ⟨x, y, e, q _ z⟩⟩
  obtain ⟨x, y, e, h⟩ := h
  obtain ⟨c, xs, rfl, hq, hd⟩ := items_sq dv e
  cases hd with
  | cons d1 t1 =>
    cases t1 with
    | cons d2 t2 =>
      cases t2
      obtain ⟨o1, S1⟩ := S.set (i := i) d1
      obtain ⟨o2, S2⟩ := S1.set (i := j) d2
      refine ⟨c, _, rfl, hq, rfl, _, _, rfl, _, _, rfl, rfl, rfl, fun us hu => ?_, o2, _, S2, h⟩
      rw [wipe_set (hu j (by simp)), wipe_set (hu i (by simp))]
def dgTup3 (i j k : Nat) : TDG := fun d r Q => ∃ x y z, itemsOf d = some [x, y, z] ∧ Q (((r.set i (.dat x)).set j (.dat y)).set k (.dat z))
theorem gd_tup3 {K : PySem.W.Frag} (i j k : Nat) : GDt K (gTup K 3 (gCons (gName i) (gCons (gName j) (gCons (gName k) gNil)))) (dgTup3 i j k) [i, j, k] := by
  refine ⟨fun w W own r σ H v d Q S dv h => ?_, fun d r Q Q' q ⟨x, y, u, e, z⟩ => ⟨x, y, u, e, q _ z⟩⟩
  obtain ⟨x, y, u, e, h⟩ := h
  obtain ⟨c, xs, rfl, hq, hd⟩ := items_sq dv e
  cases hd with
  | cons d1 t1 =>
    cases t1 with
    | cons d2 t2 =>
      cases t2 with
      | cons d3 t3 =>
        cases t3
        obtain ⟨o1, S1⟩ := S.set (i := i) d1
        obtain ⟨o2, S2⟩ := S1.set (i := j) d2
        obtain ⟨o3, S3⟩ := S2.set (i := k) d3
        refine ⟨c, _, rfl, hq, rfl, _, _, rfl, _, _, rfl, _, _, rfl, rfl, rfl, fun us hu => ?_, o3, _, S3, h⟩
        rw [wipe_set (hu k (by simp)), wipe_set (hu j (by simp)), wipe_set (hu i (by simp))]
/-- name = e -/
def dSet (te : TDE) (i : Nat) : TDS := fun E r => te r fun d => E.nx (r.set i (.dat d))
theorem psd_set {i : Nat} {x : Str} {pos' : Pos} (he : PEd X w e te) (hN : X.N.Nodup) (hi : X.N[i]? = some x := by rfl) (hx : Loc X.env.scope x := by first | exact .inl rfl | exact .inr rfl) (hs : swapsWith e (some (.Name x pos')) pos.line X.env = pure false := by rfl)
    (hf : X.fn x = true ∨ X.env.scope.names.lookup x = some .local := by first | exact .inl rfl | exact .inr rfl) : PSd X w (.Assign [.Name x pos'] e pos) (dSet te i) := by
  refine ⟨weS (ps_set hN hi hx he.pe hs hf) ?_, fun E E' r l h => he.mo _ _ _ (fun d => l.nx _) h⟩
  rintro D σ H ⟨W, own, r, S, h⟩
  refine go1 he S h fun y v H1 e1 k1 d1 p => ?_
  obtain ⟨own', S'⟩ := (S.ext e1 k1).set (i := i) d1
  exact p W own' _ H1 (.of k1 e1) S'
/-- target = e -/
def dAsg (te : TDE) (gd : TDG) : TDS := fun E r => te r fun d => gd d r E.nx
theorem psd_asg {tg : Expr} {g : TG} {gd : TDG} {vs : List Nat} (he : PEd X w e te) (hg : PG X tg g) (G : GDt X.K g gd vs) (gmo : ∀ v σ H Q Q', (∀ a b, Q a b → Q' a b) → g v σ H Q → g v σ H Q') (hs : swapsWithSole [tg] e pos.line X.env = pure false := by rfl) (hw : swappedStores [tg] e X.env = pure none := by rfl)
    (h1 : (assignEach [tg] X.env).map (·.2) = [assign tg X.env] := by rfl) : PSd X w (.Assign [tg] e pos) (dAsg te gd) := by
  refine ⟨weS (ps_asg he.pe hg hs hw h1) ?_, fun E E' r l h => he.mo _ _ _ (fun d => G.mo _ _ _ _ l.nx) h⟩
  rintro D σ H ⟨W, own, r, S, h⟩
  refine go1 he S h fun y v H1 e1 k1 d1 p => ?_
  refine gmo _ _ _ _ _ ?_ (G.run w W own r σ H1 v y _ (S.ext e1 k1) d1 p)
  rintro σ' H' ⟨rfl, _, own', r', S', q⟩
  exact q W own' σ' _ (.of k1 e1) S'
theorem gTup_mo {K : PySem.W.Frag} {n : Nat} {t : TGs} (m : ∀ vs σ H Q Q', (∀ a b, Q a b → Q' a b) → t vs σ H Q → t vs σ H Q') : ∀ v σ H Q Q', (∀ a b, Q a b → Q' a b) → gTup K n t v σ H Q → gTup K n t v σ H Q' :=
  fun v σ H Q Q' q ⟨a, xs, h1, h2, h3, h4⟩ => ⟨a, xs, h1, h2, h3, m _ _ _ _ _ q h4⟩
theorem gCons_mo {t : TG} {u : TGs} (m1 : ∀ v σ H Q Q', (∀ a b, Q a b → Q' a b) → t v σ H Q → t v σ H Q') (m2 : ∀ vs σ H Q Q', (∀ a b, Q a b → Q' a b) → u vs σ H Q → u vs σ H Q') :
    ∀ vs σ H Q Q', (∀ a b, Q a b → Q' a b) → gCons t u vs σ H Q → gCons t u vs σ H Q' := fun vs σ H Q Q' q ⟨v, rr, h1, h2⟩ => ⟨v, rr, h1, m1 _ _ _ _ _ (fun _ _ => m2 _ _ _ _ _ q) h2⟩
theorem gNil_mo : ∀ vs σ H Q Q', (∀ a b, Q a b → Q' a b) → gNil vs σ H Q → gNil vs σ H Q' := fun vs σ H Q Q' q ⟨h1, h2⟩ => ⟨h1, q _ _ h2⟩
theorem gName_mo (i : Nat) : ∀ v σ H Q Q', (∀ a b, Q a b → Q' a b) → gName i v σ H Q → gName i v σ H Q' := fun v σ H Q Q' q h => q _ _ h
/-- a, b = x, y (both sides written) -/
def dPar (i j : Nat) (ta tb : TDE) : TDS := fun E r => ta r fun x => tb r fun y => E.nx ((r.set i (.dat x)).set j (.dat y))
theorem psd_par {i j : Nat} {x y : Str} {px py pt : Pos} {kt k2 pt2} {ta tb : TDE} (ha : PEd X w a ta) (hb : PEd X w b tb) (hN : X.N.Nodup) (hc : X.calm = true := by rfl) (hi : X.N[i]? = some x := by rfl) (hj : X.N[j]? = some y := by rfl) (hij : i ≠ j := by decide)
    (hx : X.env.scope.names.lookup x = some .local := by rfl) (hy : X.env.scope.names.lookup y = some .local := by rfl) (hs1 : starEach (a :: [b]) X.env = (false, eval a X.env) :: starEach [b] X.env := by rfl) (hs2 : starEach (b :: []) X.env = (false, eval b X.env) :: starEach [] X.env := by rfl)
    (hw : swappedStores [.Tuple [.Name x px, .Name y py] kt pt] (.Tuple [a, b] k2 pt2) X.env = pure (some [x, y]) := by rfl)
    (hs : swapsWithSole [.Tuple [.Name x px, .Name y py] kt pt] (.Tuple [a, b] k2 pt2) pos.line X.env = pure false := by rfl) :
    PSd X w (.Assign [.Tuple [.Name x px, .Name y py] kt pt] (.Tuple [a, b] k2 pt2) pos) (dPar i j ta tb) := by
  refine ⟨weS (ps_par hc hN hi hj hij hx hy (pa_cons ha.pe (pa_cons hb.pe pa_nil hs2) hs1) hw hs) ?_, fun E E' r l h => ha.mo _ _ _ (fun d => hb.mo _ _ _ (fun d => l.nx _)) h⟩
  rintro D σ H ⟨W, own, r, S, h⟩
  refine go1 ha S h fun d v H1 e1 k1 d1 p => go1 hb (S.ext e1 k1) p fun d' v' H2 e2 k2 d2 q => ?_
  obtain ⟨o1, S1⟩ := ((S.ext e1 k1).ext e2 k2).set (i := i) (Dv.mono (e2.hid k1.gW) _ _ d1)
  obtain ⟨o2, S2⟩ := S1.set (i := j) d2
  exact ⟨v, v', rfl, q W o2 _ H2 (.of k2 (e1.trans e2)) S2⟩
/-- name op= e -/
def dAug (i : Nat) (te : TDE) (D : DD) : TDS := fun E r => ∃ x, r[i]? = some (.dat x) ∧ te r fun y => D x y fun z => E.nx (r.set i (.dat z))
theorem psd_aug {i : Nat} {x : Str} {op : Operator} {pos' : Pos} {ti : TIp} {D : DD} (he : PEd X w e te) (ho : PIp X op ti) (m : Mo2 D) (br : Br2 X.K ti D) (hN : X.N.Nodup) (hi : X.N[i]? = some x := by rfl) (hx : Loc X.env.scope x := by first | exact .inl rfl | exact .inr rfl)
    (hf : X.fn x = true ∨ X.env.scope.names.lookup x = some .local := by first | exact .inl rfl | exact .inr rfl) : PSd X w (.AugAssign (.Name x pos') op e pos) (dAug i te D) := by
  refine ⟨weS (ps_aug hN hi hx he.pe ho hf) ?_, fun E E' r l ⟨d, h1, h⟩ => ⟨d, h1, he.mo _ _ _ (fun y => m _ _ _ _ (fun z => l.nx _)) h⟩⟩
  rintro E σ H ⟨W, own, r, S, d, h1, h⟩
  obtain ⟨v, ev, dv⟩ := S.dat h1
  refine ⟨v, ev, go1 he S h fun y u H1 e1 k1 d1 p => br _ _ _ _ _ _ _ _ k1 (Dv.mono (e1.hid S.ok.gW) _ _ dv) d1 (m _ _ _ _ ?_ p)⟩
  intro z q v' H' e' k' d'
  obtain ⟨own', S'⟩ := ((S.ext e1 k1).ext e' k').set (i := i) d'
  exact q W own' _ H' (.of k' (e1.trans e')) S'
def subN : DD := intD (fun _ _ => True) fun i j => i - j
def addN : DD := intD (fun _ _ => True) fun i j => i + j
theorem ipI_br {f : Int → Int → Int} : Br2 X.K (ipI f) (intD (fun _ _ => True) f) := by
  intro g W H v u x y Q k dx dy h
  unfold intD at h
  split at h
  · cases dx; cases dy
    exact ⟨_, _, rfl, rfl, h.2.now k (.int _)⟩
  · exact h.elim
theorem psd_augAdd {i : Nat} {x : Str} {pos' : Pos} (he : PEd X w e te) (hN : X.N.Nodup) (hi : X.N[i]? = some x := by rfl) (hx : Loc X.env.scope x := by first | exact .inl rfl | exact .inr rfl)
    (hf : X.fn x = true ∨ X.env.scope.names.lookup x = some .local := by first | exact .inl rfl | exact .inr rfl) : PSd X w (.AugAssign (.Name x pos') .Add e pos) (dAug i te addN) := psd_aug he ip_add intD_mo ipI_br hN hi hx hf
end
end Pd
/-! What is walked; for; comprehensions; a def by its data promise. -/
namespace Pd
open PySem PySem.Spec PyProof.Rows L2

/-! ### what is walked -/
abbrev TDI := En → (List Da → Prop) → Prop
/-- J goes over the data ds (from the heap H1 on, W hidden there) -/
def Wlk (K : PySem.W.Frag) (g : Option Addr) (W : Addr → Bool) (H1 : Hp) (J : It) (ds : List Da) : Prop :=
  ∀ i H', Sm (hid W H1) H' → (i < ds.length → J.go i H') ∧ (ds.length ≤ i → J.stop i H') ∧
    ∀ x H'', i < ds.length → J.yld i H' x H'' → Sm H' H'' ∧ ∃ d, ds[i]? = some d ∧ ∀ Z : Hp, Sm (hid W H1) Z → (∀ b o, H' b = none → H'' b = some o → Z b = some o) → Dv K g Z x d
def liI (K : PySem.W.Frag) (w : Wd) (t : TDI) : TI := fun σ H R => ∃ W own r, Stt K w W own r σ H ∧ t r fun ds => ∀ J H1, Ext w.g H H1 → OkW K w.g W H1 → Wlk K w.g W H1 J ds → R J H1
structure PId (X : Cx) (w : Wd) (tg e : Expr) (t : TDI) : Prop where
  pi : PI X tg e (liI X.K w t)
  mo : ∀ r Q Q', (∀ ds, Q ds → Q' ds) → t r Q → t r Q'
section
variable {X : Cx} {w : Wd} {e tg : Expr} {pos : Pos} {te : TDE}
theorem weI {t t' : TI} (h : PI X tg e t) (le : ∀ σ H R, t' σ H R → t σ H R) : PI X tg e t' := ⟨fun pins s σ H R I q => h.run pins s σ H R I (le _ _ _ q)⟩
theorem wlk_list {K : PySem.W.Frag} {g : Option Addr} {W : Addr → Bool} {H : Hp} {a : Addr} {xs : List V} {ds : List Da} (h : hid W H a = some (.lst xs)) (dv : DvAll K g (hid W H) xs ds) : Wlk K g W H (Itl K a) ds := by
  intro i H' s
  have q : SqL K H' a xs := SqL.of (s _ _ h)
  refine ⟨fun hi => ?_, fun hi => ⟨xs, q, by rw [dv.len]; exact hi⟩, fun x H'' _ y => ?_⟩
  · have hx : i < xs.length := by rw [dv.len]; exact hi
    exact ⟨xs, xs[i], q, List.getElem?_eq_getElem hx⟩
  · obtain ⟨e, y⟩ := y
    subst e
    refine ⟨fun _ _ h => h, ?_⟩
    obtain ⟨d, h1, h2⟩ := dv.ta (y xs q)
    exact ⟨d, h1, fun Z z _ => Dv.mono z _ _ h2⟩
theorem wlk_tup {K : PySem.W.Frag} {g : Option Addr} {W : Addr → Bool} {H : Hp} {a : Addr} {xs : List V} {ds : List Da} (h : SqT K (hid W H) a xs) (dv : DvAll K g (hid W H) xs ds) : Wlk K g W H (Itt K a) ds := by
  intro i H' s
  have q : SqT K H' a xs := sqt_mono s h
  refine ⟨fun hi => ?_, fun hi => ⟨xs, q, by rw [dv.len]; exact hi⟩, fun x H'' _ y => ?_⟩
  · have hx : i < xs.length := by rw [dv.len]; exact hi
    exact ⟨xs, xs[i], q, List.getElem?_eq_getElem hx⟩
  · obtain ⟨e, y⟩ := y
    subst e
    refine ⟨fun _ _ h => h, ?_⟩
    obtain ⟨d, h1, h2⟩ := dv.ta (y xs q)
    exact ⟨d, h1, fun Z z _ => Dv.mono z _ _ h2⟩
/-- for x in a list -/
def dItL (t : TDE) : TDI := fun r Q => t r fun d => ∃ ds, d = .lst ds ∧ Q ds
theorem pid_list (h : PEd X w e te) : PId X w tg e (dItL te) := by
  refine ⟨weI (pi_list h.pe) ?_, fun r Q Q' q z => h.mo _ _ _ (fun d ⟨ds, e, z⟩ => ⟨ds, e, q _ z⟩) z⟩
  rintro σ H R ⟨W, own, r, S, z⟩
  refine go1 h S z fun d v H1 e1 k1 d1 p => ?_
  obtain ⟨ds, rfl, p⟩ := p
  cases d1 with
  | lst a1 a2 => exact ⟨_, rfl, ⟨_, SqL.of (hid_some a1).2⟩, p _ H1 e1 k1 (wlk_list a1 a2)⟩
/-- for x in a tuple -/
def dItT (t : TDE) : TDI := fun r Q => t r fun d => ∃ ds, itemsOf d = some ds ∧ Q ds
theorem pid_tup (h : PEd X w e te) : PId X w tg e (dItT te) := by
  refine ⟨weI (pi_tup h.pe) ?_, fun r Q Q' q z => h.mo _ _ _ (fun d ⟨ds, e, z⟩ => ⟨ds, e, q _ z⟩) z⟩
  rintro σ H R ⟨W, own, r, S, z⟩
  refine go1 h S z fun d v H1 e1 k1 d1 p => ?_
  obtain ⟨ds, ed, p⟩ := p
  have hid' : ∀ {ds}, itemsOf d = some ds → ∃ a xs, v = .ref a ∧ SqT X.K (hid W H1) a xs ∧ DvAll X.K w.g (hid W H1) xs ds := by
    intro ds ed
    unfold itemsOf at ed
    split at ed
    · cases ed
      cases d1 with
      | tup h1 h2 => exact ⟨_, _, rfl, h1.sq, h2⟩
    · cases ed
      cases d1 with
      | tpw h1 h2 => exact ⟨_, _, rfl, h1, h2⟩
    · cases ed
  obtain ⟨a, xs, rfl, h1, h2⟩ := hid' ed
  exact ⟨a, rfl, ⟨xs, sq_hid h1⟩, p _ H1 e1 k1 (wlk_tup h1 h2)⟩
/-- for x in range(n) -/
def rngD (n : Nat) : List Da := (List.range n).map fun i => .int (i : Nat)
theorem rngD_at {n i : Nat} (h : i < n) : (rngD n)[i]? = some (.int (i : Nat)) := by
  unfold rngD
  rw [List.getElem?_map, List.getElem?_range h]
  rfl
theorem rngD_len (n : Nat) : (rngD n).length = n := by unfold rngD; rw [List.length_map, List.length_range]
theorem wlk_rng {K : PySem.W.Frag} {g : Option Addr} {W : Addr → Bool} {H : Hp} {n : Nat} : Wlk K g W H (Itr 0 n) (rngD n) := by
  intro i H' s
  rw [rngD_len]
  refine ⟨fun h => h, fun h => h, fun x H'' hi y => ?_⟩
  obtain ⟨e, y⟩ := y
  subst e y
  refine ⟨fun _ _ h => h, _, rngD_at hi, fun Z _ _ => ?_⟩
  rw [Int.zero_add]
  exact .int _
def dItR (t : TDE) : TDI := fun r Q => t r fun d => ∃ n : Int, d = .int n ∧ -(2 ^ 62) ≤ n ∧ n < 2 ^ 62 ∧ Q (rngD n.toNat)
theorem pid_range {p : Pos} (hm : X.mg "range" = none) (h : PEd X w e te) (hg : Gl X "range" := by rfl) (h1 : starEach (e :: []) X.env = (false, eval e X.env) :: starEach [] X.env := by rfl) (hs : starEach [e] X.env = [(false, eval e X.env)] := by rfl) : PId X w tg (.Call (.Name "range" p) [e] [] pos) (dItR te) := by
  refine ⟨weI (pi_range1 hg hm (pa_cons h.pe pa_nil h1) hs) ?_, fun r Q Q' q z => h.mo _ _ _ (fun d ⟨n, e, a, b, z⟩ => ⟨n, e, a, b, q _ z⟩) z⟩
  rintro σ H R ⟨W, own, r, S, z⟩
  refine go1 h S z fun d v H1 e1 k1 d1 p => ?_
  obtain ⟨n, rfl, a, b, p⟩ := p
  cases d1
  exact ⟨n, rfl, a, b, p _ H1 e1 k1 wlk_rng⟩
/-- for c in a text -/
def chD (x : Str) : List Da := x.cps.toList.map fun c => .str ⟨#[c]⟩
def dItS (t : TDE) : TDI := fun r Q => t r fun d => ∃ x, d = .str x ∧ Q (chD x)
theorem pid_str (h : PEd X w e te) : PId X w tg e (dItS te) := by
  refine ⟨weI (pi_str h.pe) ?_, fun r Q Q' q z => h.mo _ _ _ (fun d ⟨n, e, z⟩ => ⟨n, e, q _ z⟩) z⟩
  rintro σ H R ⟨W, own, r, S, z⟩
  refine go1 h S z fun d v H1 e1 k1 d1 p => ?_
  obtain ⟨x, rfl, p⟩ := p
  cases d1
  refine ⟨x, rfl, p _ H1 e1 k1 ?_⟩
  intro i H' s
  have hl : (chD x).length = x.cps.size := by unfold chD; rw [List.length_map, Array.length_toList]
  rw [hl]
  refine ⟨fun h => h, fun h => h, fun v H'' hi y => ?_⟩
  obtain ⟨e, c, hc, rfl⟩ := y
  subst e
  refine ⟨fun _ _ h => h, .str ⟨#[c]⟩, ?_, fun Z _ _ => .str _⟩
  unfold chD
  rw [List.getElem?_map, Array.getElem?_toList, hc]
  rfl
/-- for i, x in enumerate(a list) -/
def enumD (ds : List Da) : List Da := ds.zipIdx.map fun p => .tpw [.int (p.2 : Nat), p.1]
theorem enumD_at {ds : List Da} {i : Nat} {d : Da} (h : ds[i]? = some d) : (enumD ds)[i]? = some (.tpw [.int (i : Nat), d]) := by
  unfold enumD
  rw [List.getElem?_map, List.getElem?_zipIdx, h]
  show some _ = _
  rw [Nat.zero_add]
theorem enumD_len (ds : List Da) : (enumD ds).length = ds.length := by unfold enumD; rw [List.length_map, List.length_zipIdx]
def dItE (t : TDE) : TDI := fun r Q => t r fun d => ∃ ds, d = .lst ds ∧ Q (enumD ds)
theorem pid_enum {p tpos : Pos} {elts : List Expr} {kk : Nat} (hm : X.mg "enumerate" = none) (h : PEd X w e te) (hg : Gl X "enumerate" := by rfl) (h1 : starEach (e :: []) X.env = (false, eval e X.env) :: starEach [] X.env := by rfl) (hs : starEach [e] X.env = [(false, eval e X.env)] := by rfl) :
    PId X w (.Tuple elts kk tpos) (.Call (.Name "enumerate" p) [e] [] pos) (dItE te) := by
  refine ⟨weI (pi_enum hg hm (pa_cons h.pe pa_nil h1) hs) ?_, fun r Q Q' q z => h.mo _ _ _ (fun d ⟨n, e, z⟩ => ⟨n, e, q _ z⟩) z⟩
  rintro σ H R ⟨W, own, r, S, z⟩
  refine go1 h S z fun d v H1 e1 k1 d1 p => ?_
  obtain ⟨ds, rfl, p⟩ := p
  cases d1 with
  | @lst a xs _ a1 a2 =>
    refine ⟨a, xs, rfl, SqL.of (hid_some a1).2, p _ H1 e1 k1 ?_⟩
    intro i H' s
    have q : SqL X.K H' a xs := SqL.of (s _ _ a1)
    rw [enumD_len]
    refine ⟨fun hi => ?_, fun hi => ⟨xs, q, by rw [a2.len]; exact hi⟩, fun v H'' hi y => ?_⟩
    · have hx : i < xs.length := by rw [a2.len]; exact hi
      exact ⟨xs, xs[i], q, List.getElem?_eq_getElem hx⟩
    · obtain ⟨T, x, rfl, nT, rfl, fx⟩ := y
      obtain ⟨d, h1, h2⟩ := a2.ta (fx xs q)
      refine ⟨sm_upd nT, _, enumD_at h1, fun Z z1 z2 => ?_⟩
      exact .tpw (.inl (.inl (z2 T _ nT upd_same))) (.cons (.int _) (.cons (Dv.mono z1 _ _ h2) .nil))
/-- for a, b in zip(two tuples or two lists) -/
def zipD (xs ys : List Da) : List Da := List.zipWith (fun x y => .tpw [x, y]) xs ys
theorem zipD_at {xs ys : List Da} {i : Nat} {x y : Da} (h1 : xs[i]? = some x) (h2 : ys[i]? = some y) : (zipD xs ys)[i]? = some (.tpw [x, y]) := by
  unfold zipD
  rw [List.getElem?_zipWith, h1, h2]
theorem zipD_len (xs ys : List Da) : (zipD xs ys).length = min xs.length ys.length := by unfold zipD; rw [List.length_zipWith]
def dItZ (t u : TDE) : TDI := fun r Q => t r fun d => u r fun d' => (∃ xs ys, d = .lst xs ∧ d' = .lst ys ∧ Q (zipD xs ys)) ∨ ∃ xs ys, d = .tup xs ∧ d' = .tup ys ∧ Q (zipD xs ys)
theorem pid_zip {p tpos : Pos} {elts : List Expr} {kk : Nat} {e2 : Expr} {te2 : TDE} (hm : X.mg "zip" = none) (h : PEd X w e te) (h' : PEd X w e2 te2) (hg : Gl X "zip" := by rfl) (h1 : starEach (e :: [e2]) X.env = (false, eval e X.env) :: starEach [e2] X.env := by rfl) (h2 : starEach (e2 :: []) X.env = (false, eval e2 X.env) :: starEach [] X.env := by rfl)
    (hs : starEach [e, e2] X.env = (false, eval e X.env) :: starEach [e2] X.env := by rfl) (hpl : (backTo pos (starEach [e2] X.env)).any (·.1) = false := by rfl) :
    PId X w (.Tuple elts kk tpos) (.Call (.Name "zip" p) [e, e2] [] pos) (dItZ te te2) := by
  refine ⟨weI (RZ.pi_zipA hg hm (pa_cons h.pe (pa_cons h'.pe pa_nil h2) h1) hs hpl) ?_, fun r Q Q' q z => h.mo _ _ _ (fun d z => h'.mo _ _ _ (fun d' z => ?_) z) z⟩
  · rintro σ H R ⟨W, own, r, S, z⟩
    refine go1 h S z fun d v H1 e1 k1 d1 p => go1 h' (S.ext e1 k1) p fun d' v' H2 e2' k2 d2 q => ?_
    have d1' := Dv.mono (e2'.hid k1.gW) _ _ d1
    rcases q with ⟨xs, ys, rfl, rfl, q⟩ | ⟨xs, ys, rfl, rfl, q⟩
    · cases d1' with
      | @lst a us _ a1 a2 =>
        cases d2 with
        | @lst b vs _ b1 b2 =>
          refine ⟨a, b, us, vs, rfl, .inl ⟨SqL.of (hid_some a1).2, SqL.of (hid_some b1).2, q _ H2 (e1.trans e2') k2 ?_⟩⟩
          intro i H' s
          have q1 : SqL X.K H' a us := SqL.of (s _ _ a1)
          have q2 : SqL X.K H' b vs := SqL.of (s _ _ b1)
          rw [zipD_len]
          refine ⟨fun hi => ?_, fun hi => ⟨us, vs, q1, q2, by rw [a2.len, b2.len]; omega⟩, fun v H'' hi y => ?_⟩
          · have hx : i < us.length := by rw [a2.len]; omega
            have hy : i < vs.length := by rw [b2.len]; omega
            exact ⟨us, vs, us[i], vs[i], q1, q2, List.getElem?_eq_getElem hx, List.getElem?_eq_getElem hy⟩
          · obtain ⟨T, x, y, rfl, nT, rfl, fx, fy⟩ := y
            obtain ⟨d, h1, h2⟩ := a2.ta (fx us q1)
            obtain ⟨d', h3, h4⟩ := b2.ta (fy vs q2)
            refine ⟨sm_upd nT, _, zipD_at h1 h3, fun Z z1 z2 => ?_⟩
            exact .tpw (.inl (.inl (z2 T _ nT upd_same))) (.cons (Dv.mono z1 _ _ h2) (.cons (Dv.mono z1 _ _ h4) .nil))
    · cases d1' with
      | @tup a us _ a1 a2 =>
        cases d2 with
        | @tup b vs _ b1 b2 =>
          refine ⟨a, b, us, vs, rfl, .inr ⟨sq_hid a1.sq, sq_hid b1.sq, q _ H2 (e1.trans e2') k2 ?_⟩⟩
          intro i H' s
          have q1 : SqT X.K H' a us := sqt_mono s a1.sq
          have q2 : SqT X.K H' b vs := sqt_mono s b1.sq
          rw [zipD_len]
          refine ⟨fun hi => ?_, fun hi => ⟨us, vs, q1, q2, by rw [a2.len, b2.len]; omega⟩, fun v H'' hi y => ?_⟩
          · have hx : i < us.length := by rw [a2.len]; omega
            have hy : i < vs.length := by rw [b2.len]; omega
            exact ⟨us, vs, us[i], vs[i], q1, q2, List.getElem?_eq_getElem hx, List.getElem?_eq_getElem hy⟩
          · obtain ⟨T, x, y, rfl, nT, rfl, fx, fy⟩ := y
            obtain ⟨d, h1, h2⟩ := a2.ta (fx us q1)
            obtain ⟨d', h3, h4⟩ := b2.ta (fy vs q2)
            refine ⟨sm_upd nT, _, zipD_at h1 h3, fun Z z1 z2 => ?_⟩
            exact .tpw (.inl (.inl (z2 T _ nT upd_same))) (.cons (Dv.mono z1 _ _ h2) (.cons (Dv.mono z1 _ _ h4) .nil))
  · rcases z with ⟨xs, ys, e1, e2, z⟩ | ⟨xs, ys, e1, e2, z⟩
    · exact .inl ⟨xs, ys, e1, e2, q _ z⟩
    · exact .inr ⟨xs, ys, e1, e2, q _ z⟩
end

/-! ### for -/
def forD (gd : TDG) (tb : TDS) (E : EnD) : List Da → En → Prop
  | [] => E.nx
  | d :: ds => fun r => gd d r fun r1 => tb { E with nx := forD gd tb E ds, ct := forD gd tb E ds, bk := E.nx } r1
def dFor (wd : TDI) (gd : TDG) (tb : TDS) : TDS := fun E r => wd r fun ds => forD gd tb E ds r
section
variable {X : Cx} {w : Wd}
theorem forD_mo {K : PySem.W.Frag} {g : TG} {gd : TDG} {vs : List Nat} {tb : TDS} (G : GDt K g gd vs) (m : MoS tb) {E E' : EnD} (l : Le E E') : ∀ ds r, forD gd tb E ds r → forD gd tb E' ds r
  | [], r, h => l.nx r h
  | d :: ds, r, h => G.mo _ _ _ _ (fun r1 z => m { E with nx := forD gd tb E ds, ct := forD gd tb E ds, bk := E.nx } { E' with nx := forD gd tb E' ds, ct := forD gd tb E' ds, bk := E'.nx } r1 ⟨forD_mo G m l ds, l.rt, l.nx, forD_mo G m l ds⟩ z) h
theorem psd_for {tg iter : Expr} {body : List Stmt} {g : TG} {gd : TDG} {vs : List Nat} {wd : TDI} {tb : TDS} {pos : Pos} (hi : PId X w tg iter wd) (hg : PG X tg g) (G : GDt X.K g gd vs) (gmo : ∀ v σ H Q Q', (∀ a b, Q a b → Q' a b) → g v σ H Q → g v σ H Q') (hb : PSsd X w body tb)
    (hp : PassesOwn (model X.prog X.w) X.A X.env X.xe := by exact PassesOwn.never) (hc : X.calm = true := by rfl) (hs : ∀ x, foldedSetIterable iter X.env x = pure x := by intro _; rfl) : PSd X w (.For tg iter body [] pos) (dFor wd gd tb) := by
  refine ⟨weS (ps_for hp hc hi.pi hg hb.ps hs) ?_, fun E E' r l h => hi.mo _ _ _ (fun ds => forD_mo G hb.mo l ds r) h⟩
  rintro E σ H ⟨W, own, r, S, h⟩
  refine ⟨W, own, r, S, hi.mo _ _ _ (fun ds q J H1 e1 k1 wk => ?_) h⟩
  refine ⟨fun i m σ' H' => m = ds.length - i ∧ i ≤ ds.length ∧ ∃ W' own' r', Grow w.g W H1 W' H' ∧ Stt X.K w W' own' r' σ' H' ∧ forD gd tb (endD X.K w W H E) (ds.drop i) r', ⟨ds.length, by simp, Nat.zero_le _, W, own, r, .refl, S.ext e1 k1, by rw [List.drop_zero]; exact q⟩, ?_⟩
  rintro i m σ' H' ⟨rfl, hi', W', own', r', gr, S', f⟩
  have up : Grow w.g W H W' H' := (Grow.of k1 e1).trans gr
  have sm : Sm (hid W H1) (hid W' H') := gr.data k1.gW
  have sm' : Sm (hid W H1) H' := fun a o z => (hid_some (sm a o z)).2
  obtain ⟨w1, w2, w3⟩ := wk i H' sm'
  by_cases hl : i < ds.length
  · refine .inr ⟨w1 hl, fun σ2 H2 => ∃ W2 own2 r2, Grow w.g W H1 W2 H2 ∧ Stt X.K w W2 own2 r2 σ2 H2 ∧ forD gd tb (endD X.K w W H E) (ds.drop (i + 1)) r2, fun σ2 H2 z => ?_, fun x H2 y => ?_⟩
    · exact ⟨ds.length - (i + 1), by omega, rfl, by omega, z⟩
    · obtain ⟨sH, d, hd, dv⟩ := w3 x H2 hl y
      have e2 : Ext w.g H' H2 := Ext.of sH
      have k2 : OkW X.K w.g W' H2 := S'.ok.same sH
      have S2 := S'.ext e2 k2
      have dvx : Dv X.K w.g (hid W' H2) x d := by
        refine dv _ (fun a o z => e2.hid S'.ok.gW a o (sm a o z)) fun b o nb z => ?_
        rw [hid_no]
        · exact z
        · cases y' : W' b with
          | false => rfl
          | true =>
            obtain ⟨o', z'⟩ := S'.ok.al b y'
            rw [nb] at z'; cases z'
      have ed : ds.drop i = d :: ds.drop (i + 1) := by
        obtain ⟨h1, h2⟩ := List.getElem?_eq_some_iff.mp hd
        rw [List.drop_eq_getElem_cons h1, h2]
      rw [ed] at f
      refine gmo _ _ _ _ _ ?_ (G.run w W' own' r' σ' H2 x d _ S2 dvx f)
      rintro σ3 H3 ⟨rfl, _, own3, r3, S3, t3⟩
      refine ⟨W', own3, r3, S3, hb.mo { endD X.K w W H E with nx := forD gd tb (endD X.K w W H E) (ds.drop (i + 1)), ct := forD gd tb (endD X.K w W H E) (ds.drop (i + 1)), bk := (endD X.K w W H E).nx } _ _ ⟨fun r4 z W4 o4 σ4 H4 g4 S4 => ?_, fun d z => z, fun r4 z W4 o4 σ4 H4 g4 S4 => ?_, fun r4 z W4 o4 σ4 H4 g4 S4 => ?_⟩ t3⟩
      · exact ⟨W4, o4, r4, gr.trans ((Grow.of k2 e2).trans g4), S4, z⟩
      · exact z W4 o4 σ4 H4 (up.trans ((Grow.of k2 e2).trans g4)) S4
      · exact ⟨W4, o4, r4, gr.trans ((Grow.of k2 e2).trans g4), S4, z⟩
  · refine .inl ⟨w2 (by omega), ?_⟩
    have ed : ds.drop i = [] := List.drop_eq_nil_of_le (by omega)
    rw [ed] at f
    exact f W' own' σ' H' up S'
end
end Pd
/-! Comprehensions; a def by its data promise. -/
namespace Pd
open PySem PySem.Spec PyProof.Rows L2

structure PTsd (X : Cx) (w : Wd) (ifs : List Expr) (t : TDT) : Prop where
  pt : PTs X ifs (liT X.K w t)
  mo : ∀ r Q Q', (∀ b, Q b → Q' b) → t r Q → t r Q'
def dYes : TDT := fun _ Q => Q true
section
variable {X : Cx} {w : Wd} {e : Expr} {pos : Pos}
theorem ptsd_nil : PTsd X w [] dYes := by
  refine ⟨⟨fun pins s σ H Q I h => pts_nil.run pins s σ H Q I ?_⟩, fun r Q Q' q h => q _ h⟩
  obtain ⟨W, own, r, S, h⟩ := h
  exact h H Ext.refl S.ok
theorem ptsd_one {c : Expr} {t : TDT} (h : PTd X w c t) : PTsd X w [c] t := ⟨pts_one h.pt, h.mo⟩

/-- the turns of a comprehension: acc is made so far -/
def lcD (gd : TDG) (tt : TDT) (te : TDE) (vs : List Nat) (r : En) (Q : Da → Prop) : List Da → List Da → Prop
  | [], acc => Q (.lst acc)
  | d :: ds, acc => gd d (wipeD r vs) fun r2 => tt r2 fun b => if b = true then te r2 fun y => acc.length < sizeLine ∧ lcD gd tt te vs r Q ds (acc ++ [y]) else lcD gd tt te vs r Q ds acc
def dLc (wd : TDI) (gd : TDG) (tt : TDT) (te : TDE) (vs : List Nat) : TDE := fun r Q => wd r fun ds => lcD gd tt te vs r Q ds []

/-- a list that grows at D, hidden -/
def hideD (W : Addr → Bool) (D : Addr) : Addr → Bool := fun a => decide (a = D) || W a
theorem hideD_at {W : Addr → Bool} {D : Addr} : hideD W D D = true := by simp [hideD]
theorem hideD_le {W : Addr → Bool} {D a : Addr} (h : W a = true) : hideD W D a = true := by simp [hideD, h]
theorem hideD_ne {W : Addr → Bool} {D a : Addr} (h : a ≠ D) : hideD W D a = W a := by simp [hideD, h]
theorem Stt.hideD {K : PySem.W.Frag} {W : Addr → Bool} {own : Nat → Option Addr} {r : En} {σ : L2.St} {H H' : Hp} {D : Addr} {xs : List V} (S : Stt K w W own r σ H) (hD : H D = none) (sm : Ext w.g H H') (kD : H' D = some (.lst xs)) (bg : BagI K w.g (Pd.hideD W D) H') : Stt K w (Pd.hideD W D) own r σ H' := by
  have sub : Sm (hid W H) (hid (Pd.hideD W D) H') := fun a o q => by
    obtain ⟨q1, q2⟩ := hid_some q
    have ne : a ≠ D := fun z => by rw [z, hD] at q2; cases q2
    rw [hid_no (by rw [hideD_ne ne]; exact q1)]
    exact sm a o (fun z => by rw [S.ok.gW a z] at q1; cases q1) q2
  refine ⟨⟨bg, fun a h => hideD_le (S.ok.gW a h), fun a h => ?_⟩, S.base.trans sm, fun a h => hideD_le (S.w0 a h), S.g0, fun i a h => ?_, S.inj, S.len, fun i d h n => ?_⟩
  · by_cases z : a = D
    · exact ⟨_, by rw [z]; exact kD⟩
    · rw [hideD_ne z] at h
      by_cases y : w.g = some a
      · obtain ⟨_, _, _, _, _, q, _⟩ := bg a y
        exact ⟨_, q⟩
      · obtain ⟨o, q⟩ := S.ok.al a h
        exact ⟨o, sm a o y q⟩
  · obtain ⟨a1, a2, a3⟩ := S.oW i a h
    exact ⟨hideD_le a1, a2, a3⟩
  · obtain ⟨v, h1, h2⟩ := S.sl i d h n
    refine ⟨v, h1, ?_⟩
    cases d with
    | no => trivial
    | dat d => exact Dv.mono sub _ _ h2
    | own ds =>
      obtain ⟨a, xs, q1, q2, q3, q4⟩ := h2
      exact ⟨a, xs, q1, q2, sm a _ (S.oW i a q1).2.2 q3, DvAll.mono sub _ _ q4⟩

theorem lcD_mo {K : PySem.W.Frag} {g : TG} {gd : TDG} {vs' vs : List Nat} {tt : TDT} {te : TDE} {r : En} (G : GDt K g gd vs') (mt : ∀ r Q Q', (∀ b, Q b → Q' b) → tt r Q → tt r Q') (me : ∀ r Q Q', (∀ b, Q b → Q' b) → te r Q → te r Q') {Q Q' : Da → Prop} (q : ∀ d, Q d → Q' d) :
    ∀ ds acc, lcD gd tt te vs r Q ds acc → lcD gd tt te vs r Q' ds acc
  | [], acc, h => q _ h
  | d :: ds, acc, h => G.mo _ _ _ _ (fun r2 z => mt _ _ _ (fun b z => ite_mo (me _ _ _ fun y z => ⟨z.1, lcD_mo G mt me q ds _ z.2⟩) (lcD_mo G mt me q ds _) z) z) h

/-- the reading of a comprehension, given in data -/
theorem lc_in {K : PySem.W.Frag} {g : TG} {gd : TDG} {gvs vs : List Nat} {tt : TDT} {te : TDE} {σ : L2.St} {H : Hp} {Q : VK} {wd : TDI} (G : GDt K g gd gvs) (gmo : ∀ v σ H Q Q', (∀ a b, Q a b → Q' a b) → g v σ H Q → g v σ H Q') (sub : ∀ i ∈ gvs, i ∈ vs)
    (mt : ∀ r Q Q', (∀ b, Q b → Q' b) → tt r Q → tt r Q') (me : ∀ r Q Q', (∀ b, Q b → Q' b) → te r Q → te r Q') (mw : ∀ r Q Q', (∀ ds, Q ds → Q' ds) → wd r Q → wd r Q')
    (h : liE K w (dLc wd gd tt te vs) σ H Q) : tLc (liI K w wd) g (liT K w tt) (liE K w te) vs σ H Q := by
  obtain ⟨W, own, r, S, h⟩ := h
  refine ⟨W, own, r, S, mw _ _ _ (fun ds q J H1 e1 k1 wk => ?_) h⟩
  intro D hD
  have S1 := S.ext e1 k1
  -- the state while the list at D grows
  have bagD : ∀ {H' : Hp}, Ext w.g H1 H' → (∀ a, w.g = some a → ∃ (x y : Int) (z : Nat) (c : Addr) (cs : List Int), H' a = some (.lst [.int x, .int y, .int z, .ref c]) ∧ hid (hideD W D) H' c = some (.lst (cs.map V.int))) → BagI K w.g (hideD W D) H' := fun {H'} _ z a ha => z a ha
  refine ⟨fun i m H' => m = ds.length - i ∧ i ≤ ds.length ∧ ∃ av ad, Ext w.g H1 H' ∧ BagI K w.g (hideD W D) H' ∧ H' D = some (.lst av) ∧ DvAll K w.g (hid (hideD W D) H') av ad ∧ lcD gd tt te vs r (Aft K w.g W H Q) (ds.drop i) ad, ⟨ds.length, by simp, Nat.zero_le _, [], [], ?_, ?_, upd_same, .nil, by rw [List.drop_zero]; exact q⟩, ?_⟩
  · exact Ext.of (sm_upd hD)
  · intro a ha
    obtain ⟨x, y, z, c, cs, b1, b2⟩ := S1.ok.bag a ha
    obtain ⟨c1, c2⟩ := hid_some b2
    have ne : a ≠ D := ne_of_none b1 hD
    have ne2 : c ≠ D := ne_of_none c2 hD
    exact ⟨x, y, z, c, cs, by rw [upd_ne ne]; exact b1, by rw [hid_no (by rw [hideD_ne ne2]; exact c1), upd_ne ne2]; exact c2⟩
  · rintro i m H' ⟨rfl, hi', av, ad, eH, bg, hD', dva, f⟩
    have SD : Stt K w (hideD W D) own r σ H' := S1.hideD hD eH hD' bg
    have sm : Sm (hid W H1) (hid (hideD W D) H') := fun a o z => by
      obtain ⟨q1, q2⟩ := hid_some z
      have ne : a ≠ D := ne_of_none q2 hD
      rw [hid_no (by rw [hideD_ne ne]; exact q1)]
      exact eH a o (fun z => by rw [S1.ok.gW a z] at q1; cases q1) q2
    have sm' : Sm (hid W H1) H' := fun a o z => (hid_some (sm a o z)).2
    obtain ⟨w1, w2, w3⟩ := wk i H' sm'
    by_cases hl : i < ds.length
    · refine .inr ⟨w1 hl, fun H2 => ∃ av ad, Ext w.g H1 H2 ∧ BagI K w.g (hideD W D) H2 ∧ H2 D = some (.lst av) ∧ DvAll K w.g (hid (hideD W D) H2) av ad ∧ lcD gd tt te vs r (Aft K w.g W H Q) (ds.drop (i + 1)) ad, fun H2 z => ?_, fun x H2 y => ?_⟩
      · exact ⟨ds.length - (i + 1), by omega, rfl, by omega, z⟩
      · obtain ⟨sH, d, hd, dv⟩ := w3 x H2 hl y
        have e2 : Ext w.g H' H2 := Ext.of sH
        have k2 : OkW K w.g (hideD W D) H2 := SD.ok.same sH
        have S2 := (SD.ext e2 k2).wipe vs
        have dvx : Dv K w.g (hid (hideD W D) H2) x d := by
          refine dv _ (fun a o z => e2.hid SD.ok.gW a o (sm a o z)) fun b o nb z => ?_
          rw [hid_no]
          · exact z
          · cases y' : hideD W D b with
            | false => rfl
            | true =>
              obtain ⟨o', z'⟩ := SD.ok.al b y'
              rw [nb] at z'; cases z'
        have ed : ds.drop i = d :: ds.drop (i + 1) := by
          obtain ⟨h1, h2⟩ := List.getElem?_eq_some_iff.mp hd
          rw [List.drop_eq_getElem_cons h1, h2]
        rw [ed] at f
        have hD2 : H2 D = some (.lst av) := sH _ _ hD'
        have dva2 : DvAll K w.g (hid (hideD W D) H2) av ad := DvAll.mono (e2.hid SD.ok.gW) _ _ dva
        refine gmo _ _ _ _ _ ?_ (G.run w (hideD W D) own (wipeD r vs) (L2.wipe σ vs) H2 x d _ S2 dvx f)
        rintro σ3 H3 ⟨rfl, wp, own3, r3, S3, t3⟩
        refine ⟨by rw [wp vs sub, wipe_idem], hideD W D, own3, r3, S3, mt _ _ _ (fun b z H4 e4 k4 => ?_) t3⟩
        have gne : w.g ≠ some D := fun z => by
          have z1 := S1.ok.al D (S1.ok.gW D z)
          obtain ⟨o, z2⟩ := z1
          rw [hD] at z2; cases z2
        refine ite_mo (fun z => ?_) (fun z => ?_) z
        · refine ⟨hideD W D, own3, r3, S3.ext e4 k4, me _ _ _ (fun y z v H5 e5 k5 d5 => ?_) z⟩
          have e45 := e4.trans e5
          have hD5 : H5 D = some (.lst av) := e45 D _ gne hD2
          have dva5 : DvAll K w.g (hid (hideD W D) H5) av ad := DvAll.mono (e45.hid k2.gW) _ _ dva2
          have eq : hid (hideD W D) (upd H5 D (.lst (av ++ [v]))) = hid (hideD W D) H5 := by
            funext a
            unfold hid
            by_cases z : a = D
            · subst z; rw [hideD_at, if_pos rfl, if_pos rfl]
            · rw [upd_ne z]
          refine ⟨av, hD5, by rw [dva.len]; exact z.1, av ++ [v], ad ++ [y], fun b o nb hb => ?_, fun a ha => ?_, upd_same, by rw [eq]; exact dva5.app (.cons d5 .nil), z.2⟩
          · have ne : b ≠ D := ne_of_none hb hD
            rw [upd_ne ne]
            exact (eH.trans (e2.trans e45)) b o nb hb
          · obtain ⟨x1, x2, x3, c, cs, b1, b2⟩ := k5.bag a ha
            have ne : a ≠ D := fun z => gne (z ▸ ha)
            exact ⟨x1, x2, x3, c, cs, by rw [upd_ne ne]; exact b1, by rw [eq]; exact b2⟩
        · exact ⟨av, ad, eH.trans (e2.trans e4), k4.bag, e4 D _ gne hD2, DvAll.mono (e4.hid k2.gW) _ _ dva2, z⟩
    · refine .inl ⟨w2 (by omega), ?_⟩
      have ed : ds.drop i = [] := List.drop_eq_nil_of_le (by omega)
      rw [ed] at f
      have kW : OkW K w.g W H' := by
        refine ⟨fun a ha => ?_, S1.ok.gW, fun a ha => SD.ok.al a (hideD_le ha)⟩
        obtain ⟨x1, x2, x3, c, cs, b1, b2⟩ := bg a ha
        exact ⟨x1, x2, x3, c, cs, b1, hid_le (fun a h => hideD_le h) _ _ b2⟩
      have Wd' : W D = false := by
        cases y' : W D with
        | false => rfl
        | true =>
          obtain ⟨o', z'⟩ := S1.ok.al D y'
          rw [hD] at z'; cases z'
      refine f _ H' (e1.trans eH) kW (.lst (by rw [hid_no Wd']; exact hD') (DvAll.mono (hid_le fun a h => hideD_le h) _ _ dva))

theorem ped_lc {elt tg iter : Expr} {ifs : List Expr} {scope : Scope} {own : List (Str × Nat)} {g : TG} {gd : TDG} {gvs : List Nat} {wd : TDI} {tt : TDT} {te : TDE} (hN : X.N.Nodup) (hi : PId X w tg iter wd) (ok : BlkOk X.N X.env.scope scope own) (G : GDt X.K g gd gvs) (gmo : ∀ v σ H Q Q', (∀ a b, Q a b → Q' a b) → g v σ H Q → g v σ H Q') (sub : ∀ i ∈ gvs, i ∈ own.map (·.2))
    (hg : ∀ (s : Shared) (H : Hp) (C : Addr) (cl : List (Str × Addr)) (fp : List Addr), PG (X.blk s H scope (compEnvC scope cl C X.env) fp) tg g)
    (ht : ∀ (s : Shared) (H : Hp) (C : Addr) (cl : List (Str × Addr)) (fp : List Addr), PTsd (X.blk s H scope (compEnvC scope cl C X.env) fp) w ifs tt)
    (he : ∀ (s : Shared) (H : Hp) (C : Addr) (cl : List (Str × Addr)) (fp : List Addr), PEd (X.blk s H scope (compEnvC scope cl C X.env) fp) w elt te)
    (s0 : Shared) (hc : X.calm = true := by rfl) (hs : ∀ x, foldedSetIterable iter X.env x = pure x := by intro _; rfl) :
    PEd X w (.ListComp elt [⟨tg, iter, ifs, 0⟩] scope pos) (dLc wd gd tt te (own.map (·.2))) := by
  have mt := (ht s0 (fun _ => none) 0 [] []).mo
  have me := (he s0 (fun _ => none) 0 [] []).mo
  refine ⟨weE (pe_lc (tt := liT X.K w tt) (te := liE X.K w te) hc hN hi.pi ok hg (fun s H C cl fp => (ht s H C cl fp).pt) (fun s H C cl fp => (he s H C cl fp).pe) hs) fun σ H Q h => lc_in G gmo sub mt me hi.mo h, fun r Q Q' q h => hi.mo _ _ _ (fun ds => lcD_mo G mt me q ds []) h⟩
/-- name = [..] -/
theorem psd_setLc {i : Nat} {y : Str} {py spos : Pos} {elt tg iter : Expr} {ifs : List Expr} {scope : Scope} {own : List (Str × Nat)} {g : TG} {gd : TDG} {gvs : List Nat} {wd : TDI} {tt : TDT} {te : TDE} (hN : X.N.Nodup) (hi : PId X w tg iter wd) (ok : BlkOk X.N X.env.scope scope own) (G : GDt X.K g gd gvs) (gmo : ∀ v σ H Q Q', (∀ a b, Q a b → Q' a b) → g v σ H Q → g v σ H Q') (sub : ∀ i ∈ gvs, i ∈ own.map (·.2))
    (hg : ∀ (s : Shared) (H : Hp) (C : Addr) (cl : List (Str × Addr)) (fp : List Addr), PG (X.blk s H scope (compEnvC scope cl C X.env) fp) tg g)
    (ht : ∀ (s : Shared) (H : Hp) (C : Addr) (cl : List (Str × Addr)) (fp : List Addr), PTsd (X.blk s H scope (compEnvC scope cl C X.env) fp) w ifs tt)
    (he : ∀ (s : Shared) (H : Hp) (C : Addr) (cl : List (Str × Addr)) (fp : List Addr), PEd (X.blk s H scope (compEnvC scope cl C X.env) fp) w elt te)
    (s0 : Shared) (hsw : swapsWith (.ListComp elt [⟨tg, iter, ifs, 0⟩] scope pos) (some (.Name y py)) spos.line X.env = pure true) (hy : X.N[i]? = some y := by rfl) (hyl : X.env.scope.names.lookup y = some .local := by rfl) (hc : X.calm = true := by rfl) (hs : ∀ x, foldedSetIterable iter X.env x = pure x := by intro _; rfl) :
    PSd X w (.Assign [.Name y py] (.ListComp elt [⟨tg, iter, ifs, 0⟩] scope pos) spos) (dSet (dLc wd gd tt te (own.map (·.2))) i) := by
  have mt := (ht s0 (fun _ => none) 0 [] []).mo
  have me := (he s0 (fun _ => none) 0 [] []).mo
  have mE : ∀ r Q Q', (∀ d, Q d → Q' d) → dLc wd gd tt te (own.map (·.2)) r Q → dLc wd gd tt te (own.map (·.2)) r Q' := fun r Q Q' q h => hi.mo _ _ _ (fun ds => lcD_mo G mt me q ds []) h
  refine ⟨weS (ps_setLc (i := i) (tt := liT X.K w tt) (te := liE X.K w te) hc hN hy hyl hsw hi.pi ok hg (fun s H C cl fp => (ht s H C cl fp).pt) (fun s H C cl fp => (he s H C cl fp).pe) hs) ?_, fun E E' r l h => mE _ _ _ (fun d => l.nx _) h⟩
  rintro D σ H ⟨W, own', r, S, h⟩
  refine lc_in G gmo sub mt me hi.mo ⟨W, own', r, S, mE _ _ _ (fun d z v H1 e1 k1 d1 => ?_) h⟩
  obtain ⟨o2, S2⟩ := (S.ext e1 k1).set (i := i) d1
  exact z W o2 _ H1 (.of k1 e1) S2
end

/-! ### a def by its data promise -/
def startD (N : List Str) (ds : List Da) : En := ds.map .dat ++ List.replicate (N.length - ds.length) .no
theorem start_stt {K : PySem.W.Frag} {g : Option Addr} {W : Addr → Bool} {H : Hp} {N : List Str} {vs : List V} {ds : List Da} (k : OkW K g W H) (dv : DvAll K g (hid W H) vs ds) : Stt K ⟨H, g, W⟩ W (fun _ => none) (startD N ds) (start N vs) H := by
  refine ⟨k, Ext.refl, fun _ h => h, k.gW, (fun i a h => by cases h), (fun i j a h => by cases h), ?_, fun i d h n => ?_⟩
  · unfold startD L2.start
    rw [List.length_append, List.length_append, List.length_map, List.length_map, List.length_replicate, List.length_replicate, dv.len]
  · unfold startD at h
    by_cases hi : i < ds.length
    · rw [List.getElem?_append_left (by rw [List.length_map]; exact hi), List.getElem?_map] at h
      cases q : ds[i]? with
      | none => rw [q] at h; cases h
      | some d' =>
        rw [q] at h
        cases h
        obtain ⟨v, h1, h2⟩ := dv.at q
        refine ⟨v, ?_, h2⟩
        unfold L2.start
        have hv : i < vs.length := by rw [dv.len]; exact hi
        rw [List.getElem?_append_left (by rw [List.length_map]; exact hv), List.getElem?_map, h1]
        rfl
    · rw [List.getElem?_append_right (by rw [List.length_map]; omega), List.getElem?_replicate] at h
      split at h
      · cases h
        exact absurd rfl n
      · cases h
theorem defD {P : Program} {wd : World} {K : PySem.W.Frag} {mg : Str → Option Value} {base : Heap} {x qual : Str} {st : Stmt} {f : Addr} {fd : FuncData} {N ps : List Str} {k : Nat} {p : DSp}
    (F : Fun K x qual st f fd) (S : FnScope N ps (defScope st)) (len : ∀ ds Q, p ds Q → ds.length = ps.length) (mp : MoP p)
    (inside : ∀ (cdv : Value) (A : Around) (outer : List Env) (s0 : Shared) (H : Hp) (E : XK) (w : Wd) (ds : List Da) (Q : Da → Prop), Room k (A.deeper (envOfC qual (defScope st) s0.heap.objs.size f cdv)) → A.guards = some [] → p ds Q →
      ∃ t, PSsd (cxOf CX0 P wd K mg base N qual (defScope st) f cdv A outer s0 H E).nox w (defBody st) t ∧ t { nx := fun _ => Q .non, rt := Q } (startD N ds)) :
    FnG P wd K mg base CX0 (k + 1) f fd ps (liP K p) := by
  refine FunG.ok F S ?_ ?_
  · rintro vs H Q E ⟨g, W, ds, k1, dv, h⟩
    rw [dv.len]
    exact len _ _ h
  · rintro cdv A outer s0 H vs Q E room hG ⟨g, W, ds, k1, dv, h⟩
    obtain ⟨t, ht, hq⟩ := inside cdv A outer s0 H E ⟨H, g, W⟩ ds _ room hG h
    refine ⟨_, ht.ps, W, fun _ => none, startD N ds, start_stt k1 dv, ht.mo { nx := fun _ => Aft K g W H Q .non, rt := Aft K g W H Q } _ _ ⟨fun r' q W' o' σ' H' g' S' => ?_, fun d q v H' e1 k2 d2 => q v H' e1 k2 d2, fun _ q => q.elim, fun _ q => q.elim⟩ hq⟩
    have z := ret_ok (E := { nx := fun _ H' => Q .non H', rt := Q }) (d := .non) (v := V.non) S' (fun v H1 e1 k2 d2 => q v H1 e1 k2 d2) H' Ext.refl S'.ok .non
    exact z
end Pd
/-! Built-ins on data. -/
namespace Pd
open PySem PySem.Spec PyProof.Rows L2

/-- lists and tuples -/
def seqOf : Da → Option (List Da)
  | .lst xs => some xs
  | .tup xs => some xs
  | .tpw xs => some xs
  | _ => none
section
variable {K : PySem.W.Frag} {g : Option Addr} {W : Addr → Bool} {H : Hp}
theorem seq_sq {v : V} {d : Da} {ds : List Da} (h : Dv K g (hid W H) v d) (e : seqOf d = some ds) : ∃ a xs, v = .ref a ∧ (SqL K H a xs ∨ SqT K H a xs) ∧ DvAll K g (hid W H) xs ds := by
  unfold seqOf at e
  split at e
  · cases e
    cases h with
    | lst h1 h2 => exact ⟨_, _, rfl, .inl (SqL.of (hid_some h1).2), h2⟩
  · cases e
    cases h with
    | tup h1 h2 => exact ⟨_, _, rfl, .inr (sq_hid h1.sq), h2⟩
  · cases e
    cases h with
    | tpw h1 h2 => exact ⟨_, _, rfl, .inr (sq_hid h1), h2⟩
  · cases e
theorem DvAll.one {vs : List V} {d : Da} (h : DvAll K g H vs [d]) : ∃ v, vs = [v] ∧ Dv K g H v d := by
  cases h with
  | cons a t => cases t; exact ⟨_, rfl, a⟩
theorem DvAll.two {vs : List V} {d e : Da} (h : DvAll K g H vs [d, e]) : ∃ v u, vs = [v, u] ∧ Dv K g H v d ∧ Dv K g H u e := by
  cases h with
  | cons a t =>
    cases t with
    | cons b t => cases t; exact ⟨_, _, rfl, a, b⟩
end
section
variable {X : Cx} {w : Wd} {e : Expr} {es : List Expr} {p pos : Pos} {t : TDA}

/-! ### len, abs, int, tuple, list, sum -/
def lenD : DB := fun ds Q => ∃ x, ds = [x] ∧ ((∃ xs, seqOf x = some xs ∧ Q (.int (xs.length : Nat))) ∨ ∃ z, x = .str z ∧ z.length ≤ sizeLine ∧ Q (.int (z.length : Nat)))
theorem lenD_mo : MoP lenD := fun ds Q Q' q ⟨x, h1, h⟩ => ⟨x, h1, h.elim (fun ⟨xs, a, b⟩ => .inl ⟨xs, a, q _ b⟩) fun ⟨z, a, b, c⟩ => .inr ⟨z, a, b, q _ c⟩⟩
theorem ped_len (hm : X.mg "len" = none) (args : PAd X w (e :: es) t) (hg : Gl X "len" := by rfl) (he : starEach (e :: es) X.env = (false, eval e X.env) :: starEach es X.env := by rfl) (hpl : (backTo pos (starEach es X.env)).any (·.1) = false := by rfl) :
    PEd X w (.Call (.Name "len" p) (e :: es) [] pos) (dCall lenD t) := by
  refine ped_callB call_len lenD_mo ?_ hm PySem.boot_len args hg (by decide) (by decide) he hpl
  rintro g W H vs ds Q k dv ⟨x, rfl, h⟩
  obtain ⟨v, rfl, dx⟩ := dv.one
  rcases h with ⟨xs, h1, h2⟩ | ⟨z, rfl, h1, h2⟩
  · obtain ⟨a, us, rfl, hq, hd⟩ := seq_sq dx h1
    refine ⟨_, us.length, rfl, ?_, h2.now k ?_⟩
    · rcases hq with hq | hq
      · exact .inl ⟨us, hq, rfl⟩
      · exact .inr ⟨us, hq, rfl⟩
    · rw [hd.len]
      exact .int _
  · cases dx
    exact ⟨_, z.length, rfl, ⟨h1, rfl⟩, h2.now k (.int _)⟩
def absD : DB := fun ds Q => ∃ i, ds = [.int i] ∧ Q (.int (if i < 0 then -i else i))
theorem ped_abs (hm : X.mg "abs" = none) (args : PAd X w (e :: es) t) (hg : Gl X "abs" := by rfl) (he : starEach (e :: es) X.env = (false, eval e X.env) :: starEach es X.env := by rfl) (hpl : (backTo pos (starEach es X.env)).any (·.1) = false := by rfl) :
    PEd X w (.Call (.Name "abs" p) (e :: es) [] pos) (dCall absD t) := by
  refine ped_callB call_abs (fun ds Q Q' q ⟨i, a, b⟩ => ⟨i, a, q _ b⟩) ?_ hm (by decide +kernel) args hg (by decide) (by decide) he hpl
  rintro g W H vs ds Q k dv ⟨i, rfl, h⟩
  obtain ⟨v, rfl, dx⟩ := dv.one
  cases dx
  exact ⟨i, rfl, h.now k (.int _)⟩
def intFD : DB := fun ds Q => (∃ i, ds = [.int i] ∧ Q (.int i)) ∨ ∃ b, ds = [.bl b] ∧ Q (.int (if b then 1 else 0))
theorem ped_intF (hm : X.mg "int" = none) (args : PAd X w (e :: es) t) (hg : Gl X "int" := by rfl) (he : starEach (e :: es) X.env = (false, eval e X.env) :: starEach es X.env := by rfl) (hpl : (backTo pos (starEach es X.env)).any (·.1) = false := by rfl) :
    PEd X w (.Call (.Name "int" p) (e :: es) [] pos) (dCall intFD t) := by
  refine ped_callTy call_int1 (fun ds Q Q' q h => h.elim (fun ⟨i, a, b⟩ => .inl ⟨i, a, q _ b⟩) fun ⟨i, a, b⟩ => .inr ⟨i, a, q _ b⟩) ?_ hm (by decide +kernel) args hg (by decide) (by decide) he hpl
  rintro g W H vs ds Q k dv h
  rcases h with ⟨i, rfl, h⟩ | ⟨i, rfl, h⟩
  · obtain ⟨v, rfl, dx⟩ := dv.one
    cases dx
    exact .inl ⟨i, rfl, h.now k (.int _)⟩
  · obtain ⟨v, rfl, dx⟩ := dv.one
    cases dx
    exact .inr ⟨i, rfl, h.now k (.int _)⟩
def tupFD : DB := fun ds Q => ∃ x, ds = [x] ∧ ((∃ xs, x = .lst xs ∧ Q (.tup xs)) ∨ ∃ xs, x = .tup xs ∧ Q (.tup xs))
theorem ped_tupF (hm : X.mg "tuple" = none) (args : PAd X w (e :: es) t) (hg : Gl X "tuple" := by rfl) (he : starEach (e :: es) X.env = (false, eval e X.env) :: starEach es X.env := by rfl) (hpl : (backTo pos (starEach es X.env)).any (·.1) = false := by rfl) :
    PEd X w (.Call (.Name "tuple" p) (e :: es) [] pos) (dCall tupFD t) := by
  refine ped_callTy cr_tupS (fun ds Q Q' q ⟨x, a, h⟩ => ⟨x, a, h.elim (fun ⟨i, a, b⟩ => .inl ⟨i, a, q _ b⟩) fun ⟨i, a, b⟩ => .inr ⟨i, a, q _ b⟩⟩) ?_ hm (by decide +kernel) args hg (by decide) (by decide) he hpl
  rintro g W H vs ds Q k dv ⟨x, rfl, h⟩
  obtain ⟨v, rfl, dx⟩ := dv.one
  rcases h with ⟨xs, rfl, h⟩ | ⟨xs, rfl, h⟩
  · cases dx with
    | lst a1 a2 => exact ⟨_, _, rfl, .inl ⟨SqL.of (hid_some a1).2, h.newT k a2⟩⟩
  · cases dx with
    | tup a1 a2 => exact ⟨_, _, rfl, .inr ⟨sq_hid a1.sq, h.now k (.tup a1 a2)⟩⟩
def lstFD : DB := fun ds Q => ∃ x xs, ds = [x] ∧ seqOf x = some xs ∧ Q (.lst xs)
theorem ped_lstF (hm : X.mg "list" = none) (args : PAd X w (e :: es) t) (hg : Gl X "list" := by rfl) (he : starEach (e :: es) X.env = (false, eval e X.env) :: starEach es X.env := by rfl) (hpl : (backTo pos (starEach es X.env)).any (·.1) = false := by rfl) :
    PEd X w (.Call (.Name "list" p) (e :: es) [] pos) (dCall lstFD t) := by
  refine ped_callTy call_list_of (fun ds Q Q' q ⟨x, xs, a, b, h⟩ => ⟨x, xs, a, b, q _ h⟩) ?_ hm (by decide +kernel) args hg (by decide) (by decide) he hpl
  rintro g W H vs ds Q k dv ⟨x, xs, rfl, h1, h⟩
  obtain ⟨v, rfl, dx⟩ := dv.one
  obtain ⟨a, us, rfl, hq, hd⟩ := seq_sq dx h1
  exact ⟨a, us, rfl, hq, fun l nl => h.newL k nl hd⟩
def sumD : DB := fun ds Q => ∃ is : List Int, ds = [.lst (is.map .int)] ∧ Q (.int is.sum)
theorem ped_sum (hm : X.mg "sum" = none) (args : PAd X w (e :: es) t) (hc : X.calm = true := by rfl) (hg : Gl X "sum" := by rfl) (he : starEach (e :: es) X.env = (false, eval e X.env) :: starEach es X.env := by rfl) (hpl : (backTo pos (starEach es X.env)).any (·.1) = false := by rfl) :
    PEd X w (.Call (.Name "sum" p) (e :: es) [] pos) (dCall sumD t) := by
  refine ped_callB (cr_sum hc) (fun ds Q Q' q ⟨x, a, h⟩ => ⟨x, a, q _ h⟩) ?_ hm (by decide +kernel) args hg (by decide) (by decide) he hpl
  rintro g W H vs ds Q k dv ⟨is, rfl, h⟩
  obtain ⟨v, rfl, dx⟩ := dv.one
  cases dx with
  | lst a1 a2 =>
    have ei := a2.ints
    subst ei
    exact ⟨_, is, rfl, SqL.of (hid_some a1).2, h.now k (.int _)⟩
def allD : DB := fun ds Q => ∃ bs : List Bool, ds = [.lst (bs.map .bl)] ∧ Q (.bl (bs.all id))
theorem DvAll.bls {K : PySem.W.Frag} {g : Option Addr} {H : Hp} : ∀ {is : List Bool} {xs : List V}, DvAll K g H xs (is.map .bl) → xs = is.map V.bl
  | [], _, h => by cases h; rfl
  | i :: is, _, h => by
    cases h with
    | cons p t =>
      cases p
      rw [DvAll.bls t, List.map_cons]
theorem ped_all (hm : X.mg "all" = none) (args : PAd X w (e :: es) t) (hc : X.calm = true := by rfl) (hg : Gl X "all" := by rfl) (he : starEach (e :: es) X.env = (false, eval e X.env) :: starEach es X.env := by rfl) (hpl : (backTo pos (starEach es X.env)).any (·.1) = false := by rfl) :
    PEd X w (.Call (.Name "all" p) (e :: es) [] pos) (dCall allD t) := by
  refine ped_callB (cr_all hc) (fun ds Q Q' q ⟨x, a, h⟩ => ⟨x, a, q _ h⟩) ?_ hm (by decide +kernel) args hg (by decide) (by decide) he hpl
  rintro g W H vs ds Q k dv ⟨is, rfl, h⟩
  obtain ⟨v, rfl, dx⟩ := dv.one
  cases dx with
  | lst a1 a2 =>
    have ei := a2.bls
    subst ei
    exact ⟨_, is, rfl, SqL.of (hid_some a1).2, h.now k (.bl _)⟩

/-! ### sorted -/
def srtOk (ds : List Da) : Prop := canPs ds = true ∧ PySem.W.AllAlike (ds.map toP) ∧ PySem.W.Sortable (ds.map toP) ∧ (∀ d ∈ ds, (toP d).depth ≤ 60) ∧ ds.length ≤ sizeLine
def srt (ds : List Da) : List Da := ds.mergeSort (PySem.W.dataLe false toP)
def sortD : DB := fun ds Q => ∃ x xs, ds = [x] ∧ x = .lst xs ∧ srtOk xs ∧ Q (.lst (srt xs))
theorem each_dv {K : PySem.W.Frag} {g : Option Addr} {H : Hp} : ∀ {xs : List V} {ds : List Da} {its : List Value}, DvAll K g H xs ds → Vals xs its → PySem.W.EachIs (fun u d => ∃ v, RelV v u ∧ Dv K g H v d) its ds
  | _, _, _, .nil, .nil => .nil
  | _, _, _, .cons a t, .cons b u => .cons ⟨_, b, a⟩ (each_dv t u)
theorem dv_each {K : PySem.W.Frag} {g : Option Addr} {H : Hp} : ∀ {its : List Value} {ds : List Da}, PySem.W.EachIs (fun u d => ∃ v, RelV v u ∧ Dv K g H v d) its ds → ∃ xs, Vals xs its ∧ DvAll K g H xs ds
  | _, _, .nil => ⟨[], .nil, .nil⟩
  | _, _, .cons ⟨v, a, b⟩ t => by
    obtain ⟨xs, h1, h2⟩ := dv_each t
    exact ⟨v :: xs, .cons a h1, .cons b h2⟩
theorem readsAll_toP {h : Heap} : ∀ {ds : List Da} {vs : List Value} {as : List Addr}, ReadsAll h vs (toPs ds) as → PySem.W.EachIs (fun v d => ∃ as, Reads h v (toP d) as) vs ds
  | [], _, _, r => by rw [toPs] at r; cases r; exact .nil
  | d :: ds, _, _, r => by
    rw [toPs] at r
    cases r with
    | cons h1 h2 => exact .cons ⟨_, h1⟩ (readsAll_toP h2)
/-- sorted, by values -/
def rSortD (K : PySem.W.Frag) : List V → Hp → VK → Prop := fun vs H Q => ∃ (g : Option Addr) (Hh : Hp) (a : Addr) (xs : List V) (ds : List Da), vs = [.ref a] ∧ Sm Hh H ∧ H a = some (.lst xs) ∧ DvAll K g Hh xs ds ∧ srtOk ds ∧ ∀ ys p, DvAll K g Hh ys (srt ds) → H p = none → Q (.ref p) (upd H p (.lst ys))
theorem cr_sortD {k : Nat} (hr : Room k X.A) : CallR X (.builtin "sorted") (rSortD X.K) := by
  intro pins s σ H vs us Q I r h
  obtain ⟨g, Hh, a, xs, ds, rfl, sm, ha, dv, ⟨c1, c2, c3, c4, c5⟩, q⟩ := h
  obtain ⟨its, rv, hl, hz⟩ := I.list (SqL.of ha)
  rw [Vals.ref1 r]
  have dvH : DvAll X.K g H xs ds := DvAll.mono sm _ _ dv
  obtain ⟨as, ra⟩ := Dp.readsAll I (toPs ds) xs its (DvAll.dp ds xs dvH c1) rv
  refine PySem.W.sorted_data (β := Da) (enc := toP) (R := fun u d => ∃ v, RelV v u ∧ Dv X.K g Hh v d) hl.isList (each_dv dv rv) (readsAll_toP ra) c2 c3 c5 (fun d hd => ?_) (fun out h1 h2 => ?_)
  · have := hr.un
    have := c4 d hd
    omega
  · obtain ⟨ys, y1, y2⟩ := dv_each h2
    obtain ⟨ep, he'⟩ := PyProof.Rows.sortedAll_at s.heap its out.toArray
    have hlen : ys.length ≤ sizeLine := by rw [y1.length, h1]; exact c5
    have new : ObjOk X.prog X.w (upd H (s.heap.objs.size + 1) (.lst ys)) (sortedAll s.heap its out.toArray) (s.heap.objs.size + 1) (.lst ys) := ⟨hlen, out, ep, y1, he'⟩
    exact ⟨.ref _, _, I.laid (t' := s.toks) (fun _ _ => PyProof.Rows.sortedAll_old) (Nat.le_succ _) new, rfl, q ys _ y2 (I.hok.fresh (Nat.le_succ _))⟩
theorem ped_sorted {k : Nat} (hr : Room k X.A) (hm : X.mg "sorted" = none) (args : PAd X w (e :: es) t) (hg : Gl X "sorted" := by rfl) (he : starEach (e :: es) X.env = (false, eval e X.env) :: starEach es X.env := by rfl) (hpl : (backTo pos (starEach es X.env)).any (·.1) = false := by rfl) :
    PEd X w (.Call (.Name "sorted" p) (e :: es) [] pos) (dCall sortD t) := by
  refine ped_callB (cr_sortD hr) (fun ds Q Q' q ⟨x, xs, a, b, c, h⟩ => ⟨x, xs, a, b, c, q _ h⟩) ?_ hm (by decide +kernel) args hg (by decide) (by decide) he hpl
  rintro g W H vs ds Q k dv ⟨x, xs, rfl, rfl, c, h⟩
  obtain ⟨v, rfl, dx⟩ := dv.one
  cases dx with
  | lst a1 a2 =>
    exact ⟨g, hid W H, _, _, xs, rfl, hid_sub, (hid_some a1).2, a2, c, fun ys p dy np => h.newL k np dy⟩

/-! ### repr -/
def shwOk (x : Da) : Prop := canP x = true ∧ (toP x).showable = true ∧ (toP x).depth ≤ 60 ∧ (toP x).shown.length ≤ sizeLine
def reprD : DB := fun ds Q => ∃ x, ds = [x] ∧ shwOk x ∧ Q (.str (toP x).shown)
mutual
theorem noDict_toP : ∀ d : Da, canP d = true → (toP d).hasDict = false
  | .non, _ => by rw [toP, PyData.hasDict]
  | .bl _, _ => by rw [toP, PyData.hasDict]
  | .int _, _ => by rw [toP, PyData.hasDict]
  | .str _, _ => by rw [toP, PyData.hasDict]
  | .lst xs, h => by rw [toP, PyData.hasDict]; rw [canP] at h; exact noDict_toPs xs h
  | .tup xs, h => by rw [toP, PyData.hasDict]; rw [canP] at h; exact noDict_toPs xs h
  | .tpw xs, h => by rw [toP, PyData.hasDict]; rw [canP] at h; exact noDict_toPs xs h
  | .dct _, h => by rw [canP] at h; cases h
  | .bag, h => by rw [canP] at h; cases h
  | .raw _, h => by rw [canP] at h; cases h
theorem noDict_toPs : ∀ ds : List Da, canPs ds = true → PyData.hasDictAll (toPs ds) = false
  | [], _ => by rw [toPs, PyData.hasDictAll]
  | d :: ds, h => by
    rw [canPs, Bool.and_eq_true] at h
    rw [toPs, PyData.hasDictAll, noDict_toP d h.1, noDict_toPs ds h.2]
    rfl
end
def rReprD (K : PySem.W.Frag) : List V → Hp → VK → Prop := fun vs H Q => ∃ v d, vs = [v] ∧ Dp K H v d ∧ d.showable = true ∧ d.hasDict = false ∧ d.depth ≤ 60 ∧ d.shown.length ≤ sizeLine ∧ Q (.str d.shown) H
theorem cr_reprD {k : Nat} (hr : Room k X.A) (hG : X.A.guards = some []) : CallR X (.builtin "repr") (rReprD X.K) := by
  intro pins s σ H vs us Q I r h
  obtain ⟨v, d, rfl, dp, hs, hn, hd, hz, q⟩ := h
  obtain ⟨u, rfl, ru⟩ := vals1 r
  obtain ⟨as, rd⟩ := Dp.reads I d v u dp ru
  have un := hr.un
  have refs : ∀ a : Addr, u = .ref a → wpAny (model X.prog X.w) X.A (call (.builtin "repr") [u]) (EP X pins σ Q) X.xe s := by
    rintro a rfl
    refine repr_of_reads' (h₀ := s.heap) rd hs (PyData.noDict_hsm hn) hG (by omega) (fun _ _ e => e) (fun h' u' tk hk => ?_) hz
    exact ⟨.str d.shown, H, I.kept hk, ⟨u', rfl⟩, q⟩
  have fin : ∀ (x : Str), x = d.shown → EP X pins σ Q (.str x s.toks) { s with toks := s.toks + 1 } := fun x e => ⟨.str d.shown, H, I.tok _, ⟨s.toks, by rw [e]⟩, q⟩
  cases rd with
  | none => exact PySem.P.repr_of_none (fin _ (by rw [PyData.shown]))
  | bool b => exact PySem.P.repr_of_bool (fin _ (by rw [PyData.shown]))
  | int i tk => exact PySem.P.repr_of_int (by rw [PyData.showable] at hs; exact of_decide_eq_true hs) (fin _ (by rw [PyData.shown]))
  | str x tk => exact PySem.P.repr_of_str (fin _ (by rw [PyData.shown])) (by rw [PyData.shown] at hz; exact hz)
  | list _ _ _ _ => exact refs _ rfl
  | tuple _ _ _ _ => exact refs _ rfl
  | dict _ _ _ _ _ => exact refs _ rfl
theorem ped_repr {k : Nat} (hr : Room k X.A) (hG : X.A.guards = some []) (hm : X.mg "repr" = none) (args : PAd X w (e :: es) t) (hg : Gl X "repr" := by rfl) (he : starEach (e :: es) X.env = (false, eval e X.env) :: starEach es X.env := by rfl) (hpl : (backTo pos (starEach es X.env)).any (·.1) = false := by rfl) :
    PEd X w (.Call (.Name "repr" p) (e :: es) [] pos) (dCall reprD t) := by
  refine ped_callB (cr_reprD hr hG) (fun ds Q Q' q ⟨x, a, b, h⟩ => ⟨x, a, b, q _ h⟩) ?_ hm (by decide +kernel) args hg (by decide) (by decide) he hpl
  rintro g W H vs ds Q k dv ⟨x, rfl, ⟨c1, c2, c3, c4⟩, h⟩
  obtain ⟨v, rfl, dx⟩ := dv.one
  exact ⟨v, toP x, rfl, Dv.dp x v (Dv.mono hid_sub _ _ dx) c1, c2, noDict_toP x c1, c3, c4, h.now k (.str _)⟩
end
end Pd
/-! Slices, dicts, count. -/
namespace Pd
open PySem PySem.Spec PyProof.Rows L2

/-! ### slices -/
def cutD (xs : List Da) (lo hi : Option Int) : List Da := (xs.drop (HT.sIx xs.length 0 lo)).take (HT.sIx xs.length xs.length hi - HT.sIx xs.length 0 lo)
theorem DvAll.cut {K : PySem.W.Frag} {g : Option Addr} {H : Hp} {xs : List V} {ds : List Da} (h : DvAll K g H xs ds) (lo hi : Option Int) : DvAll K g H (cutV xs lo hi) (cutD ds lo hi) := by
  unfold cutV cutD
  rw [h.len]
  exact (h.dr _).tk _
theorem cutV_all {xs : List V} {lo hi : Option Int} (h1 : HT.sIx xs.length 0 lo = 0) (h2 : HT.sIx xs.length xs.length hi = xs.length) : cutV xs lo hi = xs := by
  unfold cutV
  rw [h1, h2, List.drop_zero, Nat.sub_zero, List.take_length]
abbrev TDO := En → (Option Int → Prop) → Prop
def liO (K : PySem.W.Frag) (w : Wd) (t : TDO) : TO := fun σ H Q => ∃ W own r, Stt K w W own r σ H ∧ t r fun o => ∀ H', Ext w.g H H' → OkW K w.g W H' → Q o H'
structure POd (X : Cx) (w : Wd) (o : Option Expr) (t : TDO) : Prop where
  po : PO X o (liO X.K w t)
  mo : ∀ r Q Q', (∀ b, Q b → Q' b) → t r Q → t r Q'
section
variable {X : Cx} {w : Wd} {e a : Expr} {es : List Expr} {p pos p2 : Pos} {te ty : TDE}
def dNoP : TDO := fun _ Q => Q none
def dPart (t : TDE) : TDO := fun r Q => t r fun d => ∃ i, d = .int i ∧ Q (some i)
theorem pod_none : POd X w none dNoP := by
  refine ⟨⟨fun pins s σ H Q I h => po_none.run pins s σ H Q I ?_⟩, fun r Q Q' q h => q _ h⟩
  obtain ⟨W, own, r, S, h⟩ := h
  exact h H Ext.refl S.ok
theorem pod_some (h : PEd X w e te) : POd X w (some e) (dPart te) := by
  refine ⟨⟨fun pins s σ H Q I q => (po_some h.pe).run pins s σ H Q I ?_⟩, fun r Q Q' q z => h.mo _ _ _ (fun d ⟨i, a, b⟩ => ⟨i, a, q _ b⟩) z⟩
  obtain ⟨W, own, r, S, q⟩ := q
  refine go1 h S q fun x v H1 e1 k1 d1 z => ?_
  obtain ⟨i, rfl, z⟩ := z
  cases d1
  exact ⟨i, rfl, z H1 e1 k1⟩
def slD (x : Da) (lo hi : Option Int) (Q : Da → Prop) : Prop := match x with
  | .lst xs => Q (.lst (cutD xs lo hi))
  | .tup xs => Q (.tup (cutD xs lo hi))
  | .str z => z.length ≤ sizeLine ∧ Q (.str (cutS z lo hi))
  | _ => False
theorem slD_mo {x : Da} {lo hi : Option Int} {Q Q' : Da → Prop} (q : ∀ d, Q d → Q' d) (h : slD x lo hi Q) : slD x lo hi Q' := by
  unfold slD at h ⊢
  split at h
  · exact q _ h
  · exact q _ h
  · exact ⟨h.1, q _ h.2⟩
  · exact h.elim
/-- a slice of a tuple, its object told -/
def rSlT2 (K : PySem.W.Frag) : V → Option Int → Option Int → Hp → VK → Prop := fun x lo hi H Q => ∃ a xs, x = .ref a ∧ SqT K H a xs ∧
  (HT.sIx xs.length 0 lo = 0 ∧ HT.sIx xs.length xs.length hi = xs.length → Q (.ref a) H) ∧ NewT (cutV xs lo hi) H Q
theorem sl_tup2 : SlR X (rSlT2 X.K) := by
  intro pins s σ H x v vl vu lo hi sl Q I rx hs pl pu h
  obtain ⟨c, xs, rfl, hx, q1, q2⟩ := h
  cases rx
  obtain ⟨its, r, ht, hz⟩ := I.tuple hx
  have hlen : its.toArray.size = xs.length := by rw [List.size_toArray]; exact r.length.symm
  refine ⟨"tuple", _, PyProof.Rows.slot_tuple_getitem.lookup, ht.typeIs, ?_⟩
  by_cases hw : HT.sIx xs.length 0 lo = 0 ∧ HT.sIx xs.length xs.length hi = xs.length
  · exact getItem_tuple_whole ht hs pl pu (by rw [hlen]; exact hw) ⟨.ref c, H, I, rfl, q1 hw⟩
  · refine HT.getItem_tuple_cut ht hs pl pu (by rw [hlen]; exact hw) ?_ (by rw [hlen]; exact hz)
    rw [hlen]
    have rc : Vals (cutV xs lo hi) ((its.drop (HT.sIx xs.length 0 lo)).take (HT.sIx xs.length xs.length hi - HT.sIx xs.length 0 lo)) := (r.drop _).take _
    exact new_tup I rc (Nat.le_trans (cutV_length xs lo hi) hz) q2
def dSl (t : TDE) (lo hi : TDO) : TDE := fun r Q => t r fun x => lo r fun l => hi r fun u => slD x l u Q
theorem ped_slice {l h : Option Expr} {tl th : TDO} (he : PEd X w e te) (hl : POd X w l tl) (hh : POd X w h th) : PEd X w (.Subscript e (.Slice l h none p2) pos) (dSl te tl th) := by
  refine ⟨weE (pe_slice ((sl_list.or sl_tup2).or sl_str) he.pe hl.po hh.po) ?_, fun r Q Q' q z => he.mo _ _ _ (fun x => hl.mo _ _ _ fun i => hh.mo _ _ _ fun j => slD_mo q) z⟩
  rintro σ H Q ⟨W, own, r, S, z⟩
  refine go1 he S z fun x v H1 e1 k1 d1 z => ?_
  refine ⟨W, own, r, S.ext e1 k1, hl.mo _ _ _ (fun i z H2 e2 k2 => ?_) z⟩
  refine ⟨W, own, r, (S.ext e1 k1).ext e2 k2, hh.mo _ _ _ (fun j z H3 e3 k3 => ?_) z⟩
  have dx : Dv X.K w.g (hid W H3) v x := Dv.mono ((e2.trans e3).hid k1.gW) _ _ d1
  have z' : slD x i j (Aft X.K w.g W H3 Q) := slD_mo (fun d q => q.then (e1.trans (e2.trans e3))) z
  unfold slD at z'
  split at z'
  · cases dx with
    | lst a1 a2 => exact .inl (.inl ⟨_, _, rfl, SqL.of (hid_some a1).2, fun p np => z'.newL k3 np (a2.cut i j)⟩)
  · cases dx with
    | tup a1 a2 =>
      refine .inl (.inr ⟨_, _, rfl, sq_hid a1.sq, fun hw => ?_, z'.newT k3 (a2.cut i j)⟩)
      have e0 := cutV_all hw.1 hw.2
      have a3 := a2.cut i j
      rw [e0] at a3
      exact z'.now k3 (.tup a1 a3)
  · cases dx
    exact .inr ⟨_, rfl, z'.1, z'.2.now k3 (.str _)⟩
  · exact z'.elim

/-! ### dicts -/
def kD : Key → Da
  | .inl i => .int i
  | .inr x => .str x
def valD (kvs : List (Key × Da)) (k : Key) : Option Da := (kvs.find? fun kv => decide (kv.1 = k)).map (·.2)
def putD (kvs : List (Key × Da)) (k : Key) (v : Da) : List (Key × Da) :=
  if (kvs.any fun kv => decide (kv.1 = k)) = true then kvs.map (fun kv => if kv.1 = k then (kv.1, v) else kv) else kvs ++ [(k, v)]
def mergeD (kvs more : List (Key × Da)) : List (Key × Da) := more.foldl (fun acc kv => putD acc kv.1 kv.2) kvs
theorem KvAll.val {K : PySem.W.Frag} {g : Option Addr} {H : Hp} {k : Key} : ∀ {kvs : List (Key × V)} {ds : List (Key × Da)} {d : Da}, KvAll K g H kvs ds → valD ds k = some d → ∃ v, valV kvs k = some v ∧ Dv K g H v d
  | _, _, _, .nil, h => by cases h
  | _, _, d, .cons (k := k') (v := v) (vs := vs) (d := d') (ds := ds) a t, h => by
    by_cases e : k' = k
    · have : valD ((k', d') :: ds) k = some d' := by simp [valD, List.find?_cons, e]
      rw [this] at h
      cases h
      exact ⟨v, valV_pos e, a⟩
    · have : valD ((k', d') :: ds) k = valD ds k := by simp [valD, List.find?_cons, e]
      rw [this] at h
      obtain ⟨u, h1, h2⟩ := t.val h
      exact ⟨u, by rw [valV_neg e]; exact h1, h2⟩
theorem KvAll.app {K : PySem.W.Frag} {g : Option Addr} {H : Hp} : ∀ {kvs xs : List (Key × V)} {ds es : List (Key × Da)}, KvAll K g H kvs ds → KvAll K g H xs es → KvAll K g H (kvs ++ xs) (ds ++ es)
  | _, _, _, _, .nil, q => q
  | _, _, _, _, .cons a t, q => .cons a (t.app q)
theorem KvAll.anyK {K : PySem.W.Frag} {g : Option Addr} {H : Hp} {k : Key} : ∀ {kvs : List (Key × V)} {ds : List (Key × Da)}, KvAll K g H kvs ds → (kvs.any fun kv => decide (kv.1 = k)) = ds.any fun kv => decide (kv.1 = k)
  | _, _, .nil => rfl
  | _, _, .cons a t => by rw [List.any_cons, List.any_cons, t.anyK]
theorem KvAll.mapPut {K : PySem.W.Frag} {g : Option Addr} {H : Hp} {k : Key} {v : V} {d : Da} : ∀ {kvs : List (Key × V)} {ds : List (Key × Da)}, KvAll K g H kvs ds → Dv K g H v d →
    KvAll K g H (kvs.map fun kv => if kv.1 = k then (kv.1, v) else kv) (ds.map fun kv => if kv.1 = k then (kv.1, d) else kv)
  | _, _, .nil, _ => .nil
  | _, _, .cons (k := k') a t, dv => by
    rw [List.map_cons, List.map_cons]
    by_cases e : k' = k
    · rw [if_pos e, if_pos e]; exact .cons dv (t.mapPut dv)
    · rw [if_neg e, if_neg e]; exact .cons a (t.mapPut dv)
theorem KvAll.put {K : PySem.W.Frag} {g : Option Addr} {H : Hp} {k : Key} {v : V} {d : Da} {kvs : List (Key × V)} {ds : List (Key × Da)} (h : KvAll K g H kvs ds) (dv : Dv K g H v d) : KvAll K g H (putK kvs k v) (putD ds k d) := by
  unfold putK putD
  rw [h.anyK]
  by_cases q : (ds.any fun kv => decide (kv.1 = k)) = true
  · rw [if_pos q, if_pos q]
    exact h.mapPut dv
  · rw [if_neg q, if_neg q]
    exact h.app (.cons dv .nil)
theorem KvAll.merge {K : PySem.W.Frag} {g : Option Addr} {H : Hp} : ∀ {xs : List (Key × V)} {es : List (Key × Da)} {kvs : List (Key × V)} {ds : List (Key × Da)}, KvAll K g H kvs ds → KvAll K g H xs es → KvAll K g H (mergeK kvs xs) (mergeD ds es)
  | _, _, _, _, h, .nil => h
  | _, _, _, _, h, .cons a t => by
    unfold mergeK mergeD
    rw [List.foldl_cons, List.foldl_cons]
    exact KvAll.merge (h.put a) t
/-- d[k] -/
def dgetD : DD := fun x y Q => ∃ kvs k d, x = .dct kvs ∧ y = kD k ∧ valD kvs k = some d ∧ Q d
theorem kD_v {K : PySem.W.Frag} {g : Option Addr} {H : Hp} {v : V} {k : Key} (h : Dv K g H v (kD k)) : v = kV k := by
  cases k with
  | inl i => cases h; rfl
  | inr x => cases h; rfl
theorem ped_dget {k : Nat} (hr : Room k X.A) (ha : PEd X w a te) (hb : PEd X w e ty) (hs : NoSl e := by exact fun _ _ => rfl) : PEd X w (.Subscript a e pos) (dOp dgetD te ty) := by
  refine ⟨weE (pe_dget (hu_of hr) ha.pe hb.pe hs) ?_, dOp_mo (fun x y Q Q' q ⟨kvs, k, d, a, b, c, z⟩ => ⟨kvs, k, d, a, b, c, q _ z⟩) ha hb⟩
  rintro σ H Q ⟨W, own, r, S, h⟩
  refine go2 ha hb S h fun x y v u H1 e1 k1 d1 d2 p => ?_
  obtain ⟨kvs, k, d, rfl, rfl, hv, z⟩ := p
  cases d1 with
  | @dct c us _ a1 a2 =>
    obtain ⟨v', h1, h2⟩ := a2.val hv
    rw [kD_v d2]
    refine ⟨c, v', rfl, ?_, (z.then e1).now k1 h2⟩
    rw [← h1]
    exact DGet.k (hid_some a1).2
/-- dict(a list of pairs) -/
def dictD : DB := fun ds Q => ∃ kvs : List (Key × Da), ds = [.lst (kvs.map fun kv => .tup [kD kv.1, kv.2])] ∧ Q (.dct (mergeD [] kvs))
theorem pairs_in {K : PySem.W.Frag} {g : Option Addr} {Hh H : Hp} (sm : Sm Hh H) : ∀ {kvs : List (Key × Da)} {xs : List V}, DvAll K g Hh xs (kvs.map fun kv => .tup [kD kv.1, kv.2]) → ∃ (ps : List Addr) (us : List (Key × V)), xs = ps.map V.ref ∧ Paired (fun p kv => SqT K H p [kV kv.1, kv.2]) ps us ∧ KvAll K g Hh us kvs
  | [], _, h => by cases h; exact ⟨[], [], rfl, .nil, .nil⟩
  | kv :: kvs, _, h => by
    cases h with
    | cons a t =>
      obtain ⟨ps, us, rfl, h2, h3⟩ := pairs_in sm t
      cases a with
      | @tup c ys _ b1 b2 =>
        obtain ⟨v1, v2, rfl, c1, c2⟩ := b2.two
        rw [kD_v c1] at b1
        exact ⟨c :: ps, (kv.1, v2) :: us, rfl, .cons (sqt_mono sm b1.sq) h2, .cons c2 h3⟩
theorem ped_dict {t : TDA} (hm : X.mg "dict" = none) (args : PAd X w (e :: es) t) (hc : X.calm = true := by rfl) (hg : Gl X "dict" := by rfl) (he : starEach (e :: es) X.env = (false, eval e X.env) :: starEach es X.env := by rfl) (hpl : (backTo pos (starEach es X.env)).any (·.1) = false := by rfl) :
    PEd X w (.Call (.Name "dict" p) (e :: es) [] pos) (dCall dictD t) := by
  refine ped_callTy (call_dictP hc) (fun ds Q Q' q ⟨x, a, h⟩ => ⟨x, a, q _ h⟩) ?_ hm (by decide +kernel) args hg (by decide) (by decide) he hpl
  rintro g W H vs ds Q k dv ⟨kvs, rfl, h⟩
  obtain ⟨v, rfl, dx⟩ := dv.one
  cases dx with
  | lst a1 a2 =>
    obtain ⟨ps, us, rfl, h2, h3⟩ := pairs_in (H := H) hid_sub a2
    refine ⟨_, ps, us, rfl, SqL.of (hid_some a1).2, h2, fun q nq => ?_⟩
    obtain ⟨e1, k1, s1, q1⟩ := k.new (o := .dK (mergeK [] us)) nq
    exact h _ _ e1 k1 (.dct q1 (KvAll.mono s1 _ _ (KvAll.merge .nil h3)))

/-! ### t.count(x) -/
mutual
theorem plain_toP : ∀ d : Da, canP d = true → (toP d).plain = true
  | .non, _ => by rw [toP, PyData.plain]
  | .bl _, _ => by rw [toP, PyData.plain]
  | .int _, _ => by rw [toP, PyData.plain]
  | .str _, _ => by rw [toP, PyData.plain]
  | .lst xs, h => by rw [toP, PyData.plain]; rw [canP] at h; exact plain_toPs xs h
  | .tup xs, h => by rw [toP, PyData.plain]; rw [canP] at h; exact plain_toPs xs h
  | .tpw xs, h => by rw [toP, PyData.plain]; rw [canP] at h; exact plain_toPs xs h
  | .dct _, h => by rw [canP] at h; cases h
  | .bag, h => by rw [canP] at h; cases h
  | .raw _, h => by rw [canP] at h; cases h
theorem plain_toPs : ∀ ds : List Da, canPs ds = true → PyData.plainAll (toPs ds) = true
  | [], _ => by rw [toPs, PyData.plainAll]
  | d :: ds, h => by
    rw [canPs, Bool.and_eq_true] at h
    rw [toPs, PyData.plainAll, plain_toP d h.1, plain_toPs ds h.2]
    rfl
end
def dCnt (ta tb : TDE) : TDE := fun r Q => ta r fun x => ∃ xs, x = .tup xs ∧ canPs xs = true ∧ PyData.depthAll (toPs xs) ≤ 60 ∧ tb r fun y => canP y = true ∧ Q (.int (((toPs xs).countP fun d => PyData.eqv d (toP y) : Nat) : Int))
def tCnt (K : PySem.W.Frag) (ta tb : TE) : TE := fun σ H Q => ta σ H fun x H1 => ∃ (p : Addr) (xs : List V) (ds : List PyData), x = .ref p ∧ TupS K H1 p xs ∧ DpAll K H1 xs ds ∧ PyData.plainAll ds = true ∧ PyData.depthAll ds ≤ 60 ∧ tb σ H1 fun y H2 =>
  TupS K H2 p xs ∧ DpAll K H2 xs ds ∧ ∃ d, Dp K H2 y d ∧ d.plain = true ∧ Q (.int ((ds.countP fun z => PyData.eqv z d : Nat) : Int)) H2
theorem tups_obj {pins : List (Addr × Obj)} {σ : L2.St} {H : Hp} {s : Shared} {p : Addr} {xs : List V} (I : Inv X pins σ H s) (h : TupS X.K H p xs) : ∃ o, s.heap.get? p = some o ∧ o.dict = none := by
  rcases h with ⟨o, h, n⟩ | ⟨o, its, n, h1, _, h2, _⟩
  · exact ⟨o, (I.hok p _ h).1, n⟩
  · exact ⟨o, I.kIn p o h1, h2⟩
theorem pe_cnt {apos : Pos} {k : Nat} (hr : Room k X.A) {ta tb : TE} (ha : PE X a ta) (hb : PE X e tb) (hbase : attributeBase a "count" X.env (eval a X.env) = eval a X.env := by rfl)
    (hfew : ((backTo pos (starEach [e] X.env)).all (fun x => !x.1) && (backToKw pos (keywordEach [] X.env)).all (fun x => x.1.isSome) && decide ([e].length + ([] : List Keyword).length + (if ([] : List Keyword).isEmpty then 0 else 1) < 30)) = true := by rfl)
    (hline : (apos.endLine == pos.line) = true := by rfl) (hs : starEach (e :: []) X.env = (false, eval e X.env) :: starEach [] X.env := by rfl) (hpl : (backTo pos (starEach [] X.env)).any (·.1) = false := by rfl) :
    PE X (.Call (.Attribute a "count" apos) [e] [] pos) (tCnt X.K ta tb) := by
  constructor
  intro pins s σ H Q I h
  refine wpAny_Call_method_late hbase hfew hline rfl (thn (ha.run pins s σ H _ I h) ?_)
  rintro v s1 ⟨x, H1, I1, r1, q, xs, ds, rfl, ht, hd, hp, hdep, q1⟩
  cases r1
  obtain ⟨o, ho, hn⟩ := tups_obj I1 ht
  obtain ⟨its, rv, pl, hz⟩ := I1.tuple ht.sq
  refine ⟨"tuple", "tuple.count", PySem.F.plainAttrs_tuple, PySem.F.slot_tuple_count, PySem.F.type_tuple_count, pl.typeIs, fun c ec => ?_, ?_⟩
  · cases ec
    exact ⟨o, ho, hn⟩
  · have run := (pa_cons hb pa_nil hs).run pos pins s1 σ H1 (fun ys H2 => ∃ y, ys = [y] ∧ TupS X.K H2 q xs ∧ DpAll X.K H2 xs ds ∧ ∃ d, Dp X.K H2 y d ∧ d.plain = true ∧ Q (.int ((ds.countP fun z => PyData.eqv z d : Nat) : Int)) H2) I1
    have mono : tCons tb tNil σ H1 (fun ys H2 => ∃ y, ys = [y] ∧ TupS X.K H2 q xs ∧ DpAll X.K H2 xs ds ∧ ∃ d, Dp X.K H2 y d ∧ d.plain = true ∧ Q (.int ((ds.countP fun z => PyData.eqv z d : Nat) : Int)) H2) := by
      show tb σ H1 fun y H2 => ∃ y', [y] = [y'] ∧ _
      have : (fun (y : V) (H2 : Hp) => ∃ y', [y] = [y'] ∧ TupS X.K H2 q xs ∧ DpAll X.K H2 xs ds ∧ ∃ d, Dp X.K H2 y' d ∧ d.plain = true ∧ Q (.int ((ds.countP fun z => PyData.eqv z d : Nat) : Int)) H2) = fun y H2 => TupS X.K H2 q xs ∧ DpAll X.K H2 xs ds ∧ ∃ d, Dp X.K H2 y d ∧ d.plain = true ∧ Q (.int ((ds.countP fun z => PyData.eqv z d : Nat) : Int)) H2 := by
        funext y H2
        apply propext
        constructor
        · rintro ⟨y', e, z⟩
          cases e
          exact z
        · intro z
          exact ⟨y, rfl, z⟩
      rw [this]
      exact q1
    have run := run mono
    rw [hs] at run ⊢
    refine Calls.callWith_builtin (by show (false || (backTo pos (starEach [] X.env)).any (·.1)) = false; rw [hpl]; rfl) (Calls.evalArgs_plain (thn run ?_))
    rintro us s2 ⟨vs, H2, I2, r2, y, rfl, ht2, hd2, d, dy, dp, z⟩
    obtain ⟨u, rfl, ru⟩ := vals1 r2
    obtain ⟨its2, rv2, pl2, _⟩ := I2.tuple ht2.sq
    obtain ⟨as, ra⟩ := Dp.readsAll I2 ds xs its2 hd2 rv2
    obtain ⟨bs, rb⟩ := Dp.reads I2 d y u dy ru
    have un := hr.un
    refine PySem.SeqAt.count_tuple_data (xs := ds) (d := d) pl2 ra rb hp dp (by have : min (PyData.depthAll ds) d.depth ≤ PyData.depthAll ds := Nat.min_le_left _ _; omega) ?_
    exact ⟨.int _, H2, I2.tok _, ⟨_, rfl⟩, z⟩
theorem ped_count {apos : Pos} {k : Nat} (hr : Room k X.A) (ha : PEd X w a te) (hb : PEd X w e ty) (hbase : attributeBase a "count" X.env (eval a X.env) = eval a X.env := by rfl)
    (hfew : ((backTo pos (starEach [e] X.env)).all (fun x => !x.1) && (backToKw pos (keywordEach [] X.env)).all (fun x => x.1.isSome) && decide ([e].length + ([] : List Keyword).length + (if ([] : List Keyword).isEmpty then 0 else 1) < 30)) = true := by rfl)
    (hline : (apos.endLine == pos.line) = true := by rfl) (hs : starEach (e :: []) X.env = (false, eval e X.env) :: starEach [] X.env := by rfl) (hpl : (backTo pos (starEach [] X.env)).any (·.1) = false := by rfl) :
    PEd X w (.Call (.Attribute a "count" apos) [e] [] pos) (dCnt te ty) := by
  refine ⟨weE (pe_cnt hr ha.pe hb.pe hbase hfew hline hs hpl) ?_, fun r Q Q' q h => ha.mo _ _ _ (fun x ⟨xs, a, b, c, z⟩ => ⟨xs, a, b, c, hb.mo _ _ _ (fun y ⟨a, z⟩ => ⟨a, q _ z⟩) z⟩) h⟩
  rintro σ H Q ⟨W, own, r, S, h⟩
  refine go1 ha S h fun x v H1 e1 k1 d1 z => ?_
  obtain ⟨xs, rfl, c1, c2, z⟩ := z
  cases d1 with
  | @tup q us _ a1 a2 =>
    have up : ∀ {H2 : Hp}, Ext w.g H1 H2 → TupS X.K H2 q us ∧ DpAll X.K H2 us (toPs xs) := fun {H2} e2 => by
      have s2 := e2.hid k1.gW
      exact ⟨tups_mono hid_sub (tups_mono s2 a1), DvAll.dp xs us (DvAll.mono hid_sub _ _ (DvAll.mono s2 _ _ a2)) c1⟩
    refine ⟨q, us, toPs xs, rfl, (up Ext.refl).1, (up Ext.refl).2, plain_toPs xs c1, c2, go1 hb (S.ext e1 k1) z fun y u H2 e2 k2 d2 z2 => ?_⟩
    exact ⟨(up e2).1, (up e2).2, toP y, Dv.dp y u (Dv.mono hid_sub _ _ d2) z2.1, plain_toP y z2.1, (z2.2.then (e1.trans e2)).now k2 (.int _)⟩
end
end Pd
/-! Where a def stands; its promise by its name; a law's own bag and draws. -/
namespace Pd
open PySem PySem.Spec PyProof.Rows L2

/-- a def of the text, by its name -/
structure DefAt (K : PySem.W.Frag) (mg : Str → Option Value) (x : Str) (st : Stmt) (ps : List Str) : Prop where
  ex : ∃ f fd, Fun K x x st f fd ∧ mg x = some (.ref f) ∧ Binds K fd ps []
/-- a def whose promise is known -/
structure Calld (P : Program) (wd : World) (K : PySem.W.Frag) (mg : Str → Option Value) (base : Heap) (k : Nat) (x : Str) (ps : List Str) (p : DSp) : Prop where
  ex : ∃ f fd, FnG P wd K mg base CX0 k f fd ps (liP K p) ∧ mg x = some (.ref f) ∧ PySem.W.keepIn K (.ref f) = true ∧ Binds K fd ps []
  mp : MoP p
theorem Calld.up {P : Program} {wd : World} {K : PySem.W.Frag} {mg : Str → Option Value} {base : Heap} {j k : Nat} {x : Str} {ps : List Str} {p : DSp} (c : Calld P wd K mg base j x ps p) (h : j ≤ k) : Calld P wd K mg base k x ps p := by
  obtain ⟨⟨f, fd, F, a, b, d⟩, mp⟩ := c
  exact ⟨⟨f, fd, F.up h, a, b, d⟩, mp⟩
section
variable {X : Cx} {w : Wd}
theorem ped_f {x : Str} {p pos : Pos} {k : Nat} {ps : List Str} {sp : DSp} {t : TDA} {e : Expr} {es : List Expr} (c : Calld X.prog X.w X.K X.mg X.base k x ps sp) (room : Room k X.A) (hG : X.A.guards = some []) (args : PAd X w (e :: es) t) (gl : Gl X x := by rfl) (nd : (x == ("__debug__" : Str)) = false := by decide)
    (st : starEach (e :: es) X.env = (false, eval e X.env) :: starEach es X.env := by rfl) (bk : (backTo pos (starEach es X.env)).any (·.1) = false := by rfl) : PEd X w (.Call (.Name x p) (e :: es) [] pos) (dCall sp t) := by
  obtain ⟨⟨f, fd, F, a, b, d⟩, mp⟩ := c
  exact ped_call F mp room hG a b d args gl nd st bk
end
theorem defC {P : Program} {wd : World} {K : PySem.W.Frag} {mg : Str → Option Value} {base : Heap} {x : Str} {st : Stmt} {N ps : List Str} {k : Nat} {p : DSp} (At : DefAt K mg x st ps)
    (S : FnScope N ps (defScope st)) (len : ∀ ds Q, p ds Q → ds.length = ps.length) (mp : MoP p)
    (inside : ∀ (f : Addr) (cdv : Value) (A : Around) (outer : List Env) (s0 : Shared) (H : Hp) (E : XK) (w : Wd) (ds : List Da) (Q : Da → Prop), Room k (A.deeper (envOfC x (defScope st) s0.heap.objs.size f cdv)) → A.guards = some [] → p ds Q →
      ∃ t, PSsd (cxOf CX0 P wd K mg base N x (defScope st) f cdv A outer s0 H E).nox w (defBody st) t ∧ t { nx := fun _ => Q .non, rt := Q } (startD N ds)) :
    Calld P wd K mg base (k + 1) x ps p := by
  obtain ⟨f, fd, F, a, b⟩ := At.ex
  exact ⟨⟨f, fd, defD F S len mp (inside f), a, F.kp, b⟩, mp⟩

/-! ### the bag and a draw -/
section
variable {X : Cx}
theorem pget_list : PGet X (rIxL X.K) := by
  intro pins s σ H x y v u Q I rx ry h
  obtain ⟨p, xs, i, z, rfl, rfl, hq, he, q⟩ := h
  cases rx
  obtain ⟨t, rfl⟩ := ry
  obtain ⟨its, r, pl, hz⟩ := I.list hq
  obtain ⟨j, h1, h2, h3, h4, h5⟩ := atI_get he
  obtain ⟨w, ew, rw'⟩ := r.get h2
  have hl := r.length
  have hn := line63
  have fin : EP X pins σ Q w s := ⟨z, H, I, rw', q⟩
  by_cases h0 : 0 ≤ i
  · have hj : i.toNat = j := by
      have z1 := seqIndex_of h0 h5
      rw [z1] at h1
      cases h1
      rfl
    exact wpAny_getItem_list pl.isList h0 (by omega) (by rw [hj]; simpa using ew) fin
  · have hj : (i + (its.toArray.size : Int)).toNat = j := by
      have z1 := seqIndex_neg (by omega) h4
      rw [z1] at h1
      rw [List.size_toArray, ← hl]
      cases h1
      rfl
    exact wpAny_getItem_list_neg pl.isList (by omega) (by rw [List.size_toArray]; omega) (by omega) (by rw [hj]; simpa using ew) fin
end

/-- a draw: any integer from 0 to below many -/
def pTake : DSp := fun ds Q => ∃ n : Int, ds = [.bag, .int n] ∧ 0 < n ∧ n.natAbs.log2 < 9000 ∧ ∀ r, 0 ≤ r → r < n → Q (.int r)
theorem pTake_mo : MoP pTake := fun ds Q Q' q ⟨n, a, b, c, h⟩ => ⟨n, a, b, c, fun r h1 h2 => q _ (h r h1 h2)⟩
/-- the bag's places -/
def bagL (x y : Int) (z : Nat) (c : Addr) : HO := .lst [.int x, .int y, .int z, .ref c]
/-- in a draw: all but the bag is kept, the bag has its places -/
structure BagT (K : PySem.W.Frag) (H0 : Hp) (g c : Addr) (cs : List Int) (H : Hp) (x y : Int) (z : Nat) : Prop where
  keep : ∀ b o, b ≠ g → H0 b = some o → H b = some o
  at_g : H g = some (bagL x y z c)
  at_c : H c = some (.lst (cs.map V.int))
  ne : c ≠ g
theorem BagT.put {K : PySem.W.Frag} {H0 : Hp} {g c : Addr} {cs : List Int} {H : Hp} {x y : Int} {z : Nat} {x' y' : Int} {z' : Nat} (B : BagT K H0 g c cs H x y z) : BagT K H0 g c cs (upd H g (bagL x' y' z' c)) x' y' z' :=
  ⟨fun b o n h => by rw [upd_ne n]; exact B.keep b o n h, upd_same, by rw [upd_ne B.ne]; exact B.at_c, B.ne⟩
theorem at_nat {xs : List V} {j : Nat} {v : V} (h : xs[j]? = some v) {z : Int} (e : z = (j : Nat)) : atI xs z = some v := by
  rw [e]
  exact atI_nat h
theorem ix4 {n : Nat} {k : Int} {j : Nat} (e : k = (j : Nat)) (h : j < n) : ixN n k = some j := by
  subst e
  unfold ixN
  rw [if_pos (Int.natCast_nonneg j), if_pos (by omega)]
  simp
def NTake : List Str := ["_law_bag_here", "_law_many", "_law_cell", "_law_mixed", "_law_value", "_law_begin", "_law_second"]
theorem mul_ok {i j : Int} (h1 : 0 ≤ j) (h2 : j < 2 ^ 64) : CMul i j := .inr ⟨by omega, h2⟩
theorem mod_lt {i n : Int} (h : 0 < n) : 0 ≤ i % n ∧ i % n < n := ⟨Int.emod_nonneg _ (by omega), Int.emod_lt_of_pos _ h⟩

end Pd
/-! Reasoning about data readings: sizes, equal data, comprehensions as maps, loops by invariants. -/
namespace Pd
open PySem PySem.Spec PyProof.Rows L2

/-! ### sizes -/
structure Sz (d : Da) (n c : Nat) : Prop where
  can : canP d = true
  lay : (toP d).canLay0 = true
  shw : (toP d).showable = true
  dep : (toP d).depth ≤ n
  len : (toP d).shown.length ≤ c
theorem Sz.up {d : Da} {n c n' c' : Nat} (h : Sz d n c) (h1 : n ≤ n') (h2 : c ≤ c') : Sz d n' c' := ⟨h.can, h.lay, h.shw, Nat.le_trans h.dep h1, Nat.le_trans h.len h2⟩
theorem Sz.shp {d : Da} {n c : Nat} (h : Sz d n c) (hn : n ≤ 60) : shp d = true := by
  unfold Pd.shp SeqAt.shaped
  rw [h.can, h.lay, decide_eq_true (Nat.le_trans h.dep (Nat.le_trans hn (by decide)))]
  rfl
theorem Sz.ok {d : Da} {n c : Nat} (h : Sz d n c) (hn : n ≤ 60) (hc : c ≤ 16777216) : shwOk d := ⟨h.can, h.shw, Nat.le_trans h.dep hn, Nat.le_trans h.len (by rw [sizeLine_eq]; exact hc)⟩
theorem eqd_refl {d : Da} {n c : Nat} (h : Sz d n c) : eqd d d = true := PySem.SeqAt.eqv_refl _ h.lay
theorem sz_non : Sz .non 0 4 := ⟨by rw [canP], by rw [toP, PyData.canLay0], by rw [toP, PyData.showable], by rw [toP, PyData.depth]; exact Nat.le_refl _, by rw [toP, PyData.shown]; decide +kernel⟩
theorem sz_bl (b : Bool) : Sz (.bl b) 0 5 := by
  refine ⟨by rw [canP], by rw [toP, PyData.canLay0], by rw [toP, PyData.showable], by rw [toP, PyData.depth]; exact Nat.le_refl _, ?_⟩
  rw [toP, PyData.shown]
  cases b
  · decide +kernel
  · decide +kernel
theorem sz_int {i : Int} (h : i.natAbs.log2 < 1920) : Sz (.int i) 0 1921 := by
  refine ⟨by rw [canP], by rw [toP, PyData.canLay0], by rw [toP, PyData.showable]; exact decide_eq_true h, by rw [toP, PyData.depth]; exact Nat.le_refl _, ?_⟩
  rw [toP, PyData.shown]
  exact int_text_len_1921 h
theorem log2_of {i : Int} {k : Nat} (h : i.natAbs < 2 ^ k) (hk : 0 < k) : i.natAbs.log2 < k := by
  by_cases z : i.natAbs = 0
  · rw [z]; simpa using hk
  · exact (Nat.log2_lt z).mpr h
theorem sz_int' {i : Int} (h : -(2 ^ 400) < i) (h' : i < 2 ^ 400) : Sz (.int i) 0 1921 := sz_int (Nat.lt_trans (log2_of (k := 400) (by omega) (by decide)) (by decide))
theorem sz_str {x : Str} (h : ∀ c ∈ x.cps.toList, c < 128) : Sz (.str x) 0 (10 * x.length + 2) := by
  refine ⟨by rw [canP], ?_, by rw [toP, PyData.showable], by rw [toP, PyData.depth]; exact Nat.le_refl _, ?_⟩
  · rw [toP, PyData.canLay0]
    unfold PyData.strOk
    rw [← Array.all_toList, List.all_eq_true]
    intro c hc
    have := h c hc
    exact decide_eq_true (by omega)
  · rw [toP, PyData.shown]
    exact StrLaws.reprText_len x fun c hc => Nat.lt_trans (h c hc) (by decide)
theorem szs {ds : List Da} {n c : Nat} : (∀ d ∈ ds, Sz d n c) → canPs ds = true ∧ PyData.canLayAll0 (toPs ds) = true ∧ PyData.showableAll (toPs ds) = true ∧ PyData.depthAll (toPs ds) ≤ n ∧ ((PyData.shownAll (toPs ds)).map (·.length)).sum ≤ ds.length * c ∧ (PyData.shownAll (toPs ds)).length = ds.length := by
  induction ds with
  | nil => intro _; refine ⟨by rw [canPs], by rw [toPs, PyData.canLayAll0], by rw [toPs, PyData.showableAll], by rw [toPs, PyData.depthAll]; exact Nat.zero_le _, by rw [toPs, PyData.shownAll]; exact Nat.zero_le _, by rw [toPs, PyData.shownAll]; rfl⟩
  | cons d ds ih =>
    intro h
    obtain ⟨a1, a2, a3, a4, a5, a6⟩ := ih fun e he => h e (List.mem_cons_of_mem _ he)
    have hd := h d List.mem_cons_self
    refine ⟨by rw [canPs, hd.can, a1]; rfl, by rw [toPs, PyData.canLayAll0, hd.lay, a2]; rfl, by rw [toPs, PyData.showableAll, hd.shw, a3]; rfl, by rw [toPs, PyData.depthAll]; exact Nat.max_le.mpr ⟨hd.dep, a4⟩, ?_, by rw [toPs, PyData.shownAll, List.length_cons, List.length_cons, a6]⟩
    rw [toPs, PyData.shownAll, List.map_cons, List.sum_cons, List.length_cons, Nat.add_mul, Nat.one_mul]
    have := hd.len
    omega
theorem sz_lst {ds : List Da} {n c : Nat} (h : ∀ d ∈ ds, Sz d n c) : Sz (.lst ds) (n + 1) (ds.length * (c + 2) + 3) := by
  obtain ⟨a1, a2, a3, a4, a5, a6⟩ := szs h
  refine ⟨by rw [canP]; exact a1, by rw [toP, PyData.canLay0]; exact a2, by rw [toP, PyData.showable]; exact a3, by rw [toP, PyData.depth]; omega, ?_⟩
  rw [toP, PyData.shown]
  have q := listText_len_le (PyData.shownAll (toPs ds))
  rw [a6] at q
  rw [Nat.mul_add]
  omega
theorem sz_tup {ds : List Da} {n c : Nat} (h : ∀ d ∈ ds, Sz d n c) : Sz (.tup ds) (n + 1) (ds.length * (c + 2) + 3) := by
  obtain ⟨a1, a2, a3, a4, a5, a6⟩ := szs h
  refine ⟨by rw [canP]; exact a1, by rw [toP, PyData.canLay0]; exact a2, by rw [toP, PyData.showable]; exact a3, by rw [toP, PyData.depth]; omega, ?_⟩
  rw [toP, PyData.shown]
  have q := tupleText_len_le (PyData.shownAll (toPs ds))
  rw [a6] at q
  rw [Nat.mul_add]
  omega

/-! ### equal data -/
theorem eqd_int (i j : Int) : eqd (.int i) (.int j) = (i == j) := by unfold eqd; rw [toP, toP, PyData.eqv]
theorem eqd_str (i j : Str) : eqd (.str i) (.str j) = (i == j) := by unfold eqd; rw [toP, toP, PyData.eqv]
theorem eqd_bl (i j : Bool) : eqd (.bl i) (.bl j) = (i == j) := by unfold eqd; rw [toP, toP, PyData.eqv]
theorem shp_int (i : Int) : shp (.int i) = true := by unfold shp SeqAt.shaped; rw [canP, toP, PyData.canLay0, PyData.depth]; rfl
theorem shp_bl (i : Bool) : shp (.bl i) = true := by unfold shp SeqAt.shaped; rw [canP, toP, PyData.canLay0, PyData.depth]; rfl
theorem shp_unit : shp (.tup []) = true := by unfold shp SeqAt.shaped; rw [canP, toP, PyData.canLay0, PyData.depth, canPs, toPs, PyData.canLayAll0, PyData.depthAll]; rfl
theorem eqd_tupNil (xs : List Da) : eqd (.tup xs) (.tup []) = xs.isEmpty := by
  unfold eqd
  rw [toP, toP, PyData.eqv, toPs]
  cases xs with
  | nil => rw [toPs, PyData.eqvAll]; rfl
  | cons x xs => rw [toPs, PyData.eqvAll]; rfl

/-! ### comprehensions -/
theorem paired_len {α β : Type} {F : α → β → Prop} : ∀ {xs : List α} {ys : List β}, Paired F xs ys → xs.length = ys.length
  | _, _, .nil => rfl
  | _, _, .cons _ t => by rw [List.length_cons, List.length_cons, paired_len t]
theorem paired_at {α β : Type} {F : α → β → Prop} : ∀ {xs : List α} {ys : List β} {i : Nat} {y : β}, Paired F xs ys → ys[i]? = some y → ∃ x, xs[i]? = some x ∧ F x y
  | _, _, _, _, .nil, e => by cases e
  | _, _, 0, _, .cons h _, e => by cases e; exact ⟨_, rfl, h⟩
  | _, _, i + 1, _, .cons _ t, e => paired_at (i := i) t (by simpa using e)
theorem paired_map {α β : Type} {f : α → β} : ∀ {xs : List α} {ys : List β}, Paired (fun x y => y = f x) xs ys → ys = xs.map f
  | _, _, .nil => rfl
  | _, _, .cons h t => by rw [h, paired_map t, List.map_cons]
theorem paired_mem {α β : Type} {F : α → β → Prop} : ∀ {xs : List α} {ys : List β} {y : β}, Paired F xs ys → y ∈ ys → ∃ x ∈ xs, F x y
  | _, _, _, .nil, h => by cases h
  | _, _, _, .cons h t, hm => by
    rcases List.mem_cons.mp hm with e | e
    · subst e; exact ⟨_, List.mem_cons_self, h⟩
    · obtain ⟨x, a, b⟩ := paired_mem t e
      exact ⟨x, List.mem_cons_of_mem _ a, b⟩
/-- without tests: whatever each element may be -/
theorem lcD_all {gd : TDG} {te : TDE} {vs : List Nat} {r : En} {Q : Da → Prop} (F : Da → Da → Prop) : ∀ (ds acc : List Da),
    acc.length + ds.length ≤ 16777216 → (∀ d ∈ ds, ∀ P : Da → Prop, (∀ y, F d y → P y) → gd d (wipeD r vs) fun r2 => te r2 P) → (∀ ys, Paired F ds ys → Q (.lst (acc ++ ys))) → lcD gd dYes te vs r Q ds acc
  | [], acc, _, _, q => by
    have z := q [] .nil
    rw [List.append_nil] at z
    exact z
  | d :: ds, acc, hl, h, q => by
    rw [List.length_cons] at hl
    refine h d List.mem_cons_self (fun y => acc.length < sizeLine ∧ lcD gd dYes te vs r Q ds (acc ++ [y])) fun y fy => ⟨by rw [sizeLine_eq]; omega, ?_⟩
    refine lcD_all F ds (acc ++ [y]) (by rw [List.length_append]; show acc.length + 1 + _ ≤ _; omega) (fun e he => h e (List.mem_cons_of_mem _ he)) fun ys hy => ?_
    rw [List.append_assoc]
    exact q (y :: ys) (.cons fy hy)
/-- .. each element a function of the item -/
theorem lcD_map {gd : TDG} {te : TDE} {vs : List Nat} {r : En} {Q : Da → Prop} (f : Da → Da) {ds : List Da} (hl : ds.length ≤ 16777216)
    (h : ∀ d ∈ ds, ∀ P : Da → Prop, P (f d) → gd d (wipeD r vs) fun r2 => te r2 P) (q : Q (.lst (ds.map f))) : lcD gd dYes te vs r Q ds [] := by
  refine lcD_all (fun d y => y = f d) ds [] (by simpa using hl) (fun d hd P hp => h d hd P (hp _ rfl)) fun ys hy => ?_
  rw [paired_map hy]
  exact q
/-- with a test -/
theorem lcD_filter {gd : TDG} {tt : TDT} {te : TDE} {vs : List Nat} {r : En} {Q : Da → Prop} (p : Da → Bool) (f : Da → Da) : ∀ (ds acc : List Da), acc.length + ds.length ≤ 16777216 →
    (∀ d ∈ ds, ∀ (P : Bool → Da → Prop), (p d = true → P true (f d)) → (p d = false → P false .non) → gd d (wipeD r vs) fun r2 => tt r2 fun b => if b = true then te r2 (P true) else P false .non) →
    Q (.lst (acc ++ (ds.filter p).map f)) → lcD gd tt te vs r Q ds acc
  | [], acc, _, _, q => by
    have z : Q (.lst (acc ++ [])) := q
    rw [List.append_nil] at z
    exact z
  | d :: ds, acc, hl, h, q => by
    rw [List.length_cons] at hl
    refine h d List.mem_cons_self (fun b y => if b = true then acc.length < sizeLine ∧ lcD gd tt te vs r Q ds (acc ++ [y]) else lcD gd tt te vs r Q ds acc) (fun hp => ?_) (fun hp => ?_)
    · rw [if_pos rfl]
      refine ⟨by rw [sizeLine_eq]; omega, lcD_filter p f ds _ (by rw [List.length_append]; show acc.length + 1 + _ ≤ _; omega) (fun e he => h e (List.mem_cons_of_mem _ he)) ?_⟩
      rw [List.filter_cons_of_pos hp, List.map_cons] at q
      rw [List.append_assoc]
      exact q
    · rw [if_neg Bool.false_ne_true]
      refine lcD_filter p f ds _ (by omega) (fun e he => h e (List.mem_cons_of_mem _ he)) ?_
      rw [List.filter_cons_of_neg (by rw [hp]; exact Bool.false_ne_true)] at q
      exact q

/-! ### loops -/
/-- I i r: ahead of turn i -/
theorem forD_inv {gd : TDG} {tb : TDS} {E : EnD} {ds : List Da} (I : Nat → En → Prop) (step : ∀ i d r, ds[i]? = some d → I i r → gd d r fun r1 => tb { E with nx := I (i + 1), ct := I (i + 1), bk := E.nx } r1) (done : ∀ r, I ds.length r → E.nx r)
    (G : ∀ d r Q Q', (∀ r, Q r → Q' r) → gd d r Q → gd d r Q') (m : MoS tb) : ∀ (es : List Da) (i : Nat) (r : En), ds.drop i = es → I i r → i ≤ ds.length → forD gd tb E es r
  | [], i, r, e, h, hi => by
    have : i = ds.length := by
      have := congrArg List.length e
      rw [List.length_drop, List.length_nil] at this
      omega
    subst this
    exact done r h
  | d :: es, i, r, e, h, hi => by
    have hl : i < ds.length := by
      have := congrArg List.length e
      rw [List.length_drop, List.length_cons] at this
      omega
    have e2 := List.drop_eq_getElem_cons hl
    rw [e] at e2
    injection e2 with e3 e4
    have hd : ds[i]? = some d := by rw [List.getElem?_eq_getElem hl, e3]
    refine G _ _ _ _ (fun r1 z => ?_) (step i d r hd h)
    refine m { E with nx := I (i + 1), ct := I (i + 1), bk := E.nx } _ r1 ⟨fun r2 z => ?_, fun _ z => z, fun _ z => z, fun r2 z => ?_⟩ z
    · exact forD_inv I step done G m es (i + 1) r2 e4.symm z (by omega)
    · exact forD_inv I step done G m es (i + 1) r2 e4.symm z (by omega)
end Pd
/-! (x,) * n; texts split; a script's bag; a draw. -/
namespace Pd
open PySem PySem.Spec PyProof.Rows L2

/-! ### a tuple n times -/
theorem mul_none (l : Addr) (items : Array Value) (n : Nat) (dd : Option Addr) (sl : Array (Option Value)) (x : Int) (u : Tok) (c0 : (decide (x < -(2 ^ 63)) || decide (x ≥ 2 ^ 63)) = false) (c1 : (items.isEmpty || x == 1) = false) (c2 : (decide (x ≤ 0) || items.isEmpty) = true) :
    Meets (Builtin.«tuple.__mul__» ⟨[.ref l, .int x u], []⟩) (fun _ R s => s.heap.get? l = some { cls := .type "tuple", dict := dd, data := .seq items n, slots := sl } ∧
      R (.ok (.ret (Value.ref s.heap.objs.size))) { s with heap := s.heap.push { cls := Value.type "tuple", data := Data.seq #[] }, toks := s.toks }) :=
  .of_wp fun prog w A R s h => by
    obtain ⟨hp, g, d, tk, os⟩ := s
    obtain ⟨hl, h⟩ := h
    have f1 := AutoSeq1.idx_int
    have hsz : (#[] : Array Value).size ≤ sizeLine := Nat.zero_le _
    wp_walk using wpAny_loadPart' hl
    repeat (first
      | (refine wpAny_ite_false (decide_eq_false (by rw [c0]; exact Bool.false_ne_true)) ?_; wp_walk using wpAny_loadPart' hl)
      | (refine wpAny_ite_false (decide_eq_false (by rw [c1]; exact Bool.false_ne_true)) ?_; wp_walk using wpAny_loadPart' hl)
      | (refine wpAny_ite_true (decide_eq_true c2) ?_; wp_walk using wpAny_loadPart' hl))
    exact ⟨_, rfl, h⟩
theorem mul_once (l : Addr) (items : Array Value) (n : Nat) (dd : Option Addr) (sl : Array (Option Value)) (x : Int) (u : Tok) (c0 : (decide (x < -(2 ^ 63)) || decide (x ≥ 2 ^ 63)) = false) (c1 : (items.isEmpty || x == 1) = true) :
    Meets (Builtin.«tuple.__mul__» ⟨[.ref l, .int x u], []⟩) (fun _ R s => s.heap.get? l = some { cls := .type "tuple", dict := dd, data := .seq items n, slots := sl } ∧
      R (.ok (.ret (Value.ref l))) s) :=
  .of_wp fun prog w A R s h => by
    obtain ⟨hp, g, d, tk, os⟩ := s
    obtain ⟨hl, h⟩ := h
    have f1 := AutoSeq1.idx_int
    wp_walk using wpAny_loadPart' hl
    repeat (first
      | (refine wpAny_ite_false (decide_eq_false (by rw [c0]; exact Bool.false_ne_true)) ?_; wp_walk using wpAny_loadPart' hl)
      | (refine wpAny_ite_true (decide_eq_true c1) ?_; wp_walk using wpAny_loadPart' hl))
    exact ⟨_, rfl, h⟩

def rRepS (K : PySem.W.Frag) : R2 := fun x y H Q => ∃ l k xs, x = .ref l ∧ y = .int k ∧ SqT K H l xs ∧ xs ≠ [] ∧ -1000 ≤ k ∧ k ≤ 1000 ∧ xs.length ≤ 1000 ∧ (k = 1 → Q (.ref l) H) ∧ NewT (List.replicate k.toNat xs).flatten H Q
section
variable {X : Cx}
theorem op_repS : OpR X (binaryOp .Mult) (rRepS X.K) := by
  intro pins s σ H x y v u Q I rx ry h
  obtain ⟨l, k, xs, rfl, rfl, hT, hne, h0, h2, hz, q1, q⟩ := h
  cases rx
  obtain ⟨t, rfl⟩ := ry
  obtain ⟨its, r, pl, hs⟩ := I.tuple hT
  obtain ⟨⟨cls, dd, data, sl⟩, ho, hc, n, hd⟩ := id pl
  simp only at hc hd
  subst hc hd
  have hle : its.length = xs.length := r.length.symm
  have hn : its ≠ [] := fun e => hne (r.nil_iff.mp e)
  have hi : its.toArray.isEmpty = false := by
    cases its with
    | nil => exact absurd rfl hn
    | cons a b => rfl
  have z1 : k.toNat * xs.length ≤ 1000 * 1000 := Nat.mul_le_mul (by omega) hz
  have flen : (List.replicate k.toNat its).flatten.length ≤ sizeLine := by
    rw [PyProof.Rows.lm_len_rep_flat, hle, sizeLine_eq]
    omega
  have c0 : (decide (k < -(2 ^ 63)) || decide (k ≥ 2 ^ 63)) = false := by
    rw [decide_eq_false (show ¬ k < -(2 ^ 63) by omega), decide_eq_false (show ¬ k ≥ 2 ^ 63 by omega)]
    rfl
  have go : ∀ {S : PySem.Spec}, Meets (Builtin.«tuple.__mul__» ⟨[.ref l, .int k t], []⟩) S → S X.A (wants (EP X pins σ Q) X.xe) s → wpAny (model X.prog X.w) X.A (binaryOp .Mult (.ref l) (.int k t)) (EP X pins σ Q) X.xe s := fun m hS =>
    wpAny_binaryOp_repeat_ref (T := "tuple") (U := "int") (by decide) ⟨_, ho, rfl⟩ (fun s' => typeIs_int s' k t) noFill_tuple_mul F.fills_int_mul F.slot_int_rmul repeat_tuple F.slot_int_index.lookup
      (call_meets F.slot_int_rmul (typeIs_int s k t) F.entry_int_rmul (F.args_int_rmul_2 _ _) (int_rmul_tuple k t l its.toArray n dd sl)
        ⟨ho, rfl, ⟨_, ho, rfl⟩, call_meets F.slot_tuple_mul ⟨_, ho, rfl⟩ F.entry_tuple_mul (F.args_tuple_mul_2 _ _) m hS⟩)
  by_cases k1 : k = 1
  · refine go (mul_once l its.toArray n dd sl k t c0 (by rw [hi, Bool.false_or]; exact beq_iff_eq.mpr k1)) ⟨ho, ?_⟩
    exact ⟨.ref l, H, I, rfl, q1 k1⟩
  · have c1 : (its.toArray.isEmpty || k == 1) = false := by
      rw [hi, Bool.false_or]
      exact beq_eq_false_iff_ne.mpr k1
    by_cases k0 : k ≤ 0
    · refine go (mul_none l its.toArray n dd sl k t c0 c1 (by rw [decide_eq_true k0]; rfl)) ⟨ho, ?_⟩
      have e : (List.replicate k.toNat xs).flatten = [] := by
        rw [show k.toNat = 0 by omega]
        rfl
      rw [e] at q
      exact new_tup (its := []) I .nil (Nat.zero_le _) q
    · have c2 : (decide (k ≤ 0) || its.toArray.isEmpty) = false := by
        rw [hi, Bool.or_false]
        exact decide_eq_false k0
      have hm : ((its.toArray.size : Nat) : Int) * k ≤ 1000000 := by
        rw [List.size_toArray, hle]
        have a1 : ((xs.length : Nat) : Int) * k ≤ 1000 * k := Int.mul_le_mul_of_nonneg_right (by omega) (by omega)
        omega
      have c4 : Builtin.Tuple.tupleTooMany (((its.toArray.size : Nat) : Int) * k) = false := by
        unfold Builtin.Tuple.tupleTooMany
        rw [sizeLine_eq]
        exact decide_eq_false (by omega)
      refine go (tuple_mulW l its.toArray n dd sl k t c0 c1 c2 (by omega) c4 (by rw [size_rep, List.size_toArray]; exact flen)) ⟨ho, ?_⟩
      rw [size_rep]
      refine new_tup I (r.rep k.toNat) ?_ q
      rw [PyProof.Rows.lm_len_rep_flat, sizeLine_eq]
      omega
def repTD : DD := fun x y Q => ∃ xs n, x = .tup xs ∧ y = .int n ∧ xs ≠ [] ∧ -1000 ≤ n ∧ n ≤ 1000 ∧ xs.length ≤ 1000 ∧ Q (.tup (List.replicate n.toNat xs).flatten)
theorem ped_repT {w : Wd} {a b : Expr} {pos : Pos} {ta tb : TDE} (ha : PEd X w a ta) (hb : PEd X w b tb) : PEd X w (.BinOp a .Mult b pos) (dOp repTD ta tb) := by
  refine ped_bin op_repS (fun x y Q Q' q ⟨xs, n, a, b, c, d, e, f, h⟩ => ⟨xs, n, a, b, c, d, e, f, q _ h⟩) ?_ ha hb
  rintro g W H v u x y Q k dx dy ⟨xs, n, rfl, rfl, h1, h2, h3, h4, h⟩
  cases dy
  cases dx with
  | @tup c us _ a1 a2 =>
    refine ⟨c, n, us, rfl, rfl, sq_hid a1.sq, fun e => ?_, h2, h3, by rw [a2.len]; exact h4, fun e => ?_, h.newT k (a2.rep _)⟩
    · subst e
      cases a2
      exact h1 rfl
    · subst e
      have e2 : (List.replicate (1 : Int).toNat xs).flatten = xs := by
        show (List.replicate 1 xs).flatten = xs
        simp
      rw [e2] at h
      exact h.now k (.tup a1 a2)

/-! ### texts split -/
def dSplit (ta tb : TDE) : TDE := fun r Q => ta r fun x => ∃ a, x = .str a ∧ tb r fun y => ∃ b, y = .str b ∧ (b.length == 0) = false ∧ a.length + 2 ≤ sizeLine ∧ Q (.lst ((Txt.split a b).map .str))
theorem ped_split {w : Wd} {a b : Expr} {apos pos : Pos} {ta tb : TDE} (ha : PEd X w a ta) (hb : PEd X w b tb) (hs : starEach [b] X.env = [(false, eval b X.env)] := by rfl) (hbase : attributeBase a "split" X.env (eval a X.env) = eval a X.env := by rfl) (hline : (apos.endLine == pos.line) = true := by rfl) :
    PEd X w (.Call (.Attribute a "split" apos) [b] [] pos) (dSplit ta tb) := by
  refine ⟨weE (pe_split ha.pe hb.pe hs hbase hline) ?_, fun r Q Q' q h => ha.mo _ _ _ (fun x ⟨a, e, z⟩ => ⟨a, e, hb.mo _ _ _ (fun y ⟨b, c, d, f, z⟩ => ⟨b, c, d, f, q _ z⟩) z⟩) h⟩
  rintro σ H Q ⟨W, own, r, S, h⟩
  refine go1 ha S h fun x v H1 e1 k1 d1 z => ?_
  obtain ⟨a, rfl, z⟩ := z
  cases d1
  refine ⟨⟨a, rfl⟩, go1 hb (S.ext e1 k1) z fun y u H2 e2 k2 d2 z2 => ?_⟩
  obtain ⟨b, rfl, c1, c2, z3⟩ := z2
  cases d2
  exact ⟨a, b, rfl, rfl, c1, c2, fun p np => (z3.then (e1.trans e2)).newL k2 np (DvAll.mk_strs _)⟩
end
end Pd
/-! A law's own frame: the bag is made of the script, then the rest in data; the end of a row. -/
namespace Pd
open PySem PySem.Spec PyProof.Rows L2

/-! ### the bag, made -/
def spBag (K : PySem.W.Frag) : Sp := fun vs H Q _ => ∃ (a : Addr) (ns : List Int), vs = [.ref a] ∧ SqL K H a (ns.map V.int) ∧ ns.length ≤ 63 ∧
  ∀ (H' : Hp) (p c : Addr) (cs : List Int), Sm H H' → H p = none → H c = none → c ≠ p → H' p = some (bagL 0 1234567891 0 c) → H' c = some (.lst (cs.map V.int)) → Q (.ref p) H'
def absI (i : Int) : Int := if i < 0 then -i else i
theorem cutV_ints (ns : List Int) (lo hi : Option Int) : ∃ ms : List Int, cutV (ns.map V.int) lo hi = ms.map V.int ∧ ms.length ≤ ns.length := by
  unfold cutV
  rw [← List.map_drop, ← List.map_take]
  refine ⟨_, rfl, ?_⟩
  rw [List.length_take, List.length_drop]
  omega
theorem bag_read (K : PySem.W.Frag) (vs : List V) (H : Hp) (Q : VK) (E : XK) (h : spBag K vs H Q E) (m1 : TT) (hm : m1 = tYes) :
    tRet (tLst (tCons (tC (.int 0)) (tCons (tC (.int 1234567891)) (tCons (tC (.int 0)) (tCons (tLc (iList K (tSl (rSlL K) (tVar 0) tNoPart (tPart (tC (.int 63))))) (gName 1) m1 (tCB (fun xs H Q => ∃ i, xs = [V.int i] ∧ Q (.int (if i < 0 then -i else i)) H) (tCons (tVar 1) tNil)) [1]) tNil)))))
      { nx := fun _ H' => Q .non H', rt := Q } (L2.start ["_law_script", "_law_cell"] vs) H := by
  subst hm
  obtain ⟨a, ns, rfl, hS, hl, q⟩ := h
  refine ⟨.ref a, rfl, 63, rfl, a, ns.map V.int, rfl, hS, fun b nb => ?_⟩
  obtain ⟨ms, em, lm⟩ := cutV_ints ns none (some 63)
  have sb : Sm H (upd H b (.lst (cutV (ns.map V.int) none (some 63)))) := sm_upd nb
  refine ⟨b, rfl, ⟨_, SqL.of upd_same⟩, fun D hD => ?_⟩
  have nDb : D ≠ b := fun e => by rw [e, upd_same] at hD; cases hD
  rw [em] at hD sb ⊢
  refine lc_list (K := K) (a := b) (xs := ms.map V.int) (fun i H' => (∀ x o, x ≠ D → upd H b (.lst (ms.map V.int)) x = some o → H' x = some o) ∧ H' D = some (.lst (((ms.take i).map absI).map V.int))) ⟨fun x o n e => by rw [upd_ne n]; exact e, upd_same⟩
    (fun i H' _ h => SqL.of (h.1 b _ nDb.symm upd_same)) ?_ ?_
  · rintro i x H' hi ⟨k, hD'⟩
    obtain ⟨z, hz, rfl⟩ : ∃ z, ms[i]? = some z ∧ x = V.int z := by
      rw [List.getElem?_map] at hi
      cases e : ms[i]? with
      | none => rw [e] at hi; cases hi
      | some z => rw [e] at hi; exact ⟨z, rfl, (Option.some.inj hi).symm⟩
    refine ⟨rfl, ?_⟩
    unfold tYes
    dsimp only
    rw [if_pos rfl]
    refine ⟨_, rfl, z, rfl, _, hD', ?_, fun y o n e => by rw [upd_ne n]; exact k y o n e, ?_⟩
    · rw [List.length_map, List.length_map, List.length_take, sizeLine_eq]
      omega
    · rw [upd_same, List.take_add_one, hz, List.map_append, List.map_append]
      rfl
  · rintro H' ⟨k, hD'⟩
    rw [List.length_map, List.take_length] at hD'
    refine ⟨by show 4 ≤ sizeLine; decide, fun p np => ?_⟩
    have nDp : D ≠ p := ne_of_none hD' np
    have hDn : H D = none := by
      cases e : H D with
      | none => rfl
      | some o => rw [sb D o e] at hD; cases hD
    have keep : Sm H H' := fun x o e => k x o (ne_of_none e hDn) (sb x o e)
    have hp : H p = none := by
      cases e : H p with
      | none => rfl
      | some o => rw [keep p o e] at np; cases np
    refine q _ p D _ (fun x o e => ?_) hp hDn nDp upd_same (by rw [upd_ne nDp]; exact hD')
    rw [upd_ne (ne_of_none e hp)]
    exact keep x o e

/-! ### the law -/
def spLaw (K : PySem.W.Frag) : Sp := fun vs H Q _ => ∃ (a : Addr) (ns : List Int), vs = [.ref a] ∧ SqL K H a (ns.map V.int) ∧ ns.length ≤ 63 ∧ ∀ H', Q (.bl true) H'
def liX (K : PySem.W.Frag) (t : TDS) : TS := fun E σ H => ∃ w, liS K w t E σ H
theorem pssX {X : Cx} {sts : List Stmt} {t : TDS} (h : ∀ w, PSsd X w sts t) : PSs X sts (liX X.K t) := by
  constructor
  rintro pins s σ H D I ⟨w, q⟩
  exact (h w).ps.run pins s σ H D I q
/-- the slots behind the bag's making: nothing but the bag, at 1 -/
def lawStart (n : Nat) : En := .no :: .dat .bag :: List.replicate n .no
theorem lawG {P : Program} {wd : World} {K : PySem.W.Frag} {mg : Str → Option Value} {base : Heap} {st s1 : Stmt} {rest : List Stmt} {f : Addr} {fd : FuncData} {n : Nat} {names : List Str} {k : Nat}
    (F : Fun K "law" "law" st f fd) (S : FnScope ("_law_script" :: "_law_bag_here" :: names) ["_law_script"] (defScope st)) (hn : names.length = n) (hb : defBody st = s1 :: rest)
    (inside : ∀ (cdv : Value) (A : Around) (outer : List Env) (s0 : Shared) (H : Hp) (E : XK), Room k (A.deeper (envOfC "law" (defScope st) s0.heap.objs.size f cdv)) → A.guards = some [] →
      ∃ td, PS (cxOf CX0 P wd K mg base ("_law_script" :: "_law_bag_here" :: names) "law" (defScope st) f cdv A outer s0 H E).nox s1 (tAsg (tCall (spBag K) [] E0 (tCons (tVar 0) tNil)) (gName 1)) ∧
        (∀ w, PSsd (cxOf CX0 P wd K mg base ("_law_script" :: "_law_bag_here" :: names) "law" (defScope st) f cdv A outer s0 H E).nox w rest td) ∧ td { nx := fun _ => False, rt := fun d => d = .bl true } (lawStart n)) :
    FnG P wd K mg base CX0 (k + 1) f fd ["_law_script"] (spLaw K) := by
  refine FunG.ok F S ?_ ?_
  · rintro vs H Q E ⟨a, ns, rfl, _⟩
    rfl
  · rintro cdv A outer s0 H vs Q E room hG ⟨a, ns, rfl, hS, hl, q⟩
    obtain ⟨td, h1, h2, h3⟩ := inside cdv A outer s0 H E room hG
    rw [hb]
    refine ⟨_, pss_cons h1 (pssX h2), .ref a, rfl, a, ns, rfl, hS, hl, fun H' p c cs sm np nc ne hp hc => ?_⟩
    have kW : OkW K (some p) (fun b => decide (b = p)) H' := by
      refine ⟨fun b hb => ?_, fun b hb => ?_, fun b hb => ?_⟩
      · cases hb
        exact ⟨0, 1234567891, 0, c, cs, hp, by rw [hid_no (decide_eq_false ne)]; exact hc⟩
      · cases hb
        exact decide_eq_true rfl
      · have e : b = p := of_decide_eq_true hb
        rw [e]
        exact ⟨_, hp⟩
    refine ⟨⟨H', some p, fun b => decide (b = p)⟩, fun b => decide (b = p), fun _ => none, lawStart n, ⟨kW, Ext.refl, fun _ h => h, kW.gW, (fun i a h => by cases h), (fun i j a h => by cases h), ?_, fun i d h nd => ?_⟩, (h2 ⟨H', some p, fun b => decide (b = p)⟩).mo { nx := fun _ => False, rt := fun d => d = .bl true } _ _ ⟨fun _ z => z.elim, fun d z v H2 e2 k2 d2 => ?_, fun _ z => z.elim, fun _ z => z.elim⟩ h3⟩
    · unfold lawStart L2.start
      simp only [List.length_cons, List.length_replicate, List.length_set, List.length_append, List.length_map, List.length_nil, hn]
      omega
    · match i, h with
      | 0, h => cases h; exact absurd rfl nd
      | 1, h =>
        cases h
        exact ⟨.ref p, rfl, .bag rfl⟩
      | i + 2, h =>
        have : (List.replicate n Sl.no)[i]? = some d := h
        rw [List.getElem?_replicate] at this
        split at this
        · cases this; exact absurd rfl nd
        · cases this
    · subst z
      cases d2
      exact q H2
end Pd
/-! sum of a tuple; readings of slices, counts, dicts. -/
namespace Pd
open PySem PySem.Spec PyProof.Rows L2

section
variable {X : Cx} {w : Wd}
def rSumB (K : PySem.W.Frag) : List V → Hp → VK → Prop := fun vs H Q => ∃ (a : Addr) (ns : List Int), vs = [V.ref a] ∧ (SqL K H a (ns.map V.int) ∨ SqT K H a (ns.map V.int)) ∧ Q (.int ns.sum) H
theorem cr_sumB (hc : X.calm = true) : CallR X (.builtin "sum") (rSumB X.K) := by
  intro pins s σ H vs us Q I r h
  obtain ⟨a, ns, rfl, hs, q⟩ := h
  rcases hs with hs | hs
  · exact cr_sum hc pins s σ H _ us Q I r ⟨a, ns, rfl, hs, q⟩
  · obtain ⟨its, rv, hl, _⟩ := I.tuple hs
    rw [Vals.ref1 r]
    obtain ⟨xs, e⟩ := rv.ints.allInts.items
    have hn : numsOf (intItems xs).toList = ns := by rw [← e]; exact rv.ints.numsOf
    rw [nums_intItems] at hn
    rw [e] at hl
    refine PySem.W.ktm_sumG (I.ok.hd hc) hl fun h' tk t' hk => ?_
    rw [preSum_eq, List.take_of_length_le (by simp), hn]
    exact ⟨.int _, H, I.kept hk, ⟨_, rfl⟩, q⟩
def sumBD : DB := fun ds Q => ∃ (x : Da) (is : List Int), ds = [x] ∧ seqOf x = some (is.map .int) ∧ Q (.int is.sum)
theorem ped_sumB {e : Expr} {es : List Expr} {t : TDA} {p pos : Pos} (hm : X.mg "sum" = none) (args : PAd X w (e :: es) t) (hc : X.calm = true := by rfl) (hg : Gl X "sum" := by rfl) (he : starEach (e :: es) X.env = (false, eval e X.env) :: starEach es X.env := by rfl) (hpl : (backTo pos (starEach es X.env)).any (·.1) = false := by rfl) :
    PEd X w (.Call (.Name "sum" p) (e :: es) [] pos) (dCall sumBD t) := by
  refine ped_callB (cr_sumB hc) (fun ds Q Q' q ⟨x, is, a, b, h⟩ => ⟨x, is, a, b, q _ h⟩) ?_ hm (by decide +kernel) args hg (by decide) (by decide) he hpl
  rintro g W H vs ds Q k dv ⟨x, is, rfl, h1, h⟩
  obtain ⟨v, rfl, dx⟩ := dv.one
  obtain ⟨a, us, rfl, hq, hd⟩ := seq_sq dx h1
  have ei := hd.ints
  subst ei
  exact ⟨a, is, rfl, hq, h.now k (.int _)⟩
end

/-! ### readings -/
theorem cutD_from (xs : List Da) {t : Nat} (h : t ≤ xs.length) : cutD xs (some (t : Int)) none = xs.drop t := by
  unfold cutD
  rw [HT.sIx_nat, HT.sIx_none, Nat.min_eq_left h, List.take_of_length_le]
  rw [List.length_drop]
  exact Nat.le_refl _
theorem cutD_to (xs : List Da) (t : Nat) : cutD xs none (some (t : Int)) = xs.take t := by
  unfold cutD
  rw [HT.sIx_nat, HT.sIx_none, List.drop_zero, Nat.sub_zero]
  rcases Nat.le_total t xs.length with h | h
  · rw [Nat.min_eq_left h]
  · rw [Nat.min_eq_right h, List.take_of_length_le (Nat.le_refl _), List.take_of_length_le h]
theorem cnt_strs (a : List Str) (t : Str) : ((toPs (a.map .str)).countP fun d => PyData.eqv d (toP (.str t))) = a.countP (· == t) := by
  induction a with
  | nil => rw [List.map_nil, toPs]; rfl
  | cons x xs ih =>
    have e : PyData.eqv (toP (.str x)) (toP (.str t)) = (x == t) := eqd_str x t
    rw [List.map_cons, toPs, List.countP_cons, List.countP_cons, ih, e]
theorem canP_strs (a : List Str) : canPs (a.map .str) = true := by
  rw [canPs_all, List.all_map, List.all_eq_true]
  intro x _
  show canP (.str x) = true
  rw [canP]
theorem dep_strs (a : List Str) : PyData.depthAll (toPs (a.map .str)) ≤ 60 := by
  have : PyData.depthAll (toPs (a.map .str)) = 0 := by
    induction a with
    | nil => rw [List.map_nil, toPs, PyData.depthAll]
    | cons x xs ih => rw [List.map_cons, toPs, PyData.depthAll, ih, toP, PyData.depth]; rfl
  omega
/-- a dict with a value for each of some texts -/
def wD (ts : List Str) (f : Str → Da) : List (Key × Da) := ts.map fun t => (.inr t, f t)
theorem valD_w {ts : List Str} {f : Str → Da} {t : Str} (h : t ∈ ts) : valD (wD ts f) (.inr t) = some (f t) := by
  unfold valD wD
  induction ts with
  | nil => cases h
  | cons x xs ih =>
    rw [List.map_cons, List.find?_cons]
    by_cases e : x = t
    · subst e
      simp
    · have e2 : decide ((Sum.inr x : Key) = .inr t) = false := decide_eq_false fun z => e (Sum.inr.inj z)
      simp only [e2]
      exact ih ((List.mem_cons.mp h).resolve_left fun z => e z.symm)
theorem putD_new {kvs : List (Key × Da)} {k : Key} {v : Da} (h : k ∉ kvs.map (·.1)) : putD kvs k v = kvs ++ [(k, v)] := by
  unfold putD
  rw [if_neg]
  intro z
  rw [List.any_eq_true] at z
  obtain ⟨kv, a, b⟩ := z
  exact h (List.mem_map.mpr ⟨kv, a, of_decide_eq_true b⟩)
theorem mergeD_new : ∀ (more kvs : List (Key × Da)), ((kvs ++ more).map (·.1)).Nodup → mergeD kvs more = kvs ++ more
  | [], kvs, _ => by rw [List.append_nil]; rfl
  | kv :: more, kvs, h => by
    have h1 : kv.1 ∉ kvs.map (·.1) := by
      rw [List.map_append, List.nodup_append] at h
      exact fun z => h.2.2 _ z _ (by rw [List.map_cons]; exact List.mem_cons_self) rfl
    show mergeD (putD kvs kv.1 kv.2) more = _
    rw [putD_new h1, mergeD_new more _ (by rw [List.append_assoc]; exact h), List.append_assoc]
    rfl
theorem mergeD_w {ts : List Str} {f : Str → Da} (h : ts.Nodup) : mergeD [] (wD ts f) = wD ts f := by
  refine (mergeD_new _ [] ?_).trans rfl
  rw [List.nil_append]
  unfold wD
  rw [List.map_map]
  exact List.pairwise_map.mpr (h.imp fun n z => n (Sum.inr.inj z))
/-- a value for each of some texts, each on its own -/
theorem paired_fun {ts : List Str} (nd : ts.Nodup) {ys : List Da} {F : Str → Int → Prop} (h : Paired (fun d y => ∃ t i, d = .str t ∧ y = .tup [.str t, .int i] ∧ F t i) (ts.map Da.str) ys) :
    ∃ w : Str → Int, (∀ t ∈ ts, F t (w t)) ∧ ys = ts.map fun t => .tup [.str t, .int (w t)] := by
  induction ts generalizing ys with
  | nil => cases h; exact ⟨fun _ => 0, (fun _ m => by cases m), rfl⟩
  | cons x xs ih =>
    rw [List.map_cons] at h
    cases h with
    | cons p t =>
      obtain ⟨t', i, e1, e2, f⟩ := p
      cases e1
      obtain ⟨w, h1, h2⟩ := ih (List.nodup_cons.mp nd).2 t
      have hx := (List.nodup_cons.mp nd).1
      refine ⟨fun s => if s = x then i else w s, fun s m => ?_, ?_⟩
      · dsimp only
        by_cases e : s = x
        · subst e
          rw [if_pos rfl]
          exact f
        · rw [if_neg e]
          exact h1 s ((List.mem_cons.mp m).resolve_left e)
      · rw [List.map_cons, e2, h2]
        dsimp only
        rw [if_pos rfl]
        congr 1
        refine List.map_congr_left fun s m => ?_
        rw [if_neg fun e => hx (by rw [← e]; exact m)]
end Pd
/-! Comprehensions by their results; rows of integers and tuples of texts. -/
namespace Pd
open PySem PySem.Spec PyProof.Rows L2

/-- without tests: the list that comes out is given -/
theorem lcD_ix {gd : TDG} {te : TDE} {vs : List Nat} {r : En} {Q : Da → Prop} : ∀ (ds res acc : List Da), res.length = ds.length → acc.length + ds.length ≤ 16777216 →
    (∀ (k : Nat) (h1 : k < ds.length) (h2 : k < res.length) (P : Da → Prop), P res[k] → gd ds[k] (wipeD r vs) fun r2 => te r2 P) → Q (.lst (acc ++ res)) → lcD gd dYes te vs r Q ds acc
  | [], [], acc, _, _, _, q => by
    rw [List.append_nil] at q
    exact q
  | [], y :: ys, _, e, _, _, _ => by cases e
  | d :: ds, [], _, e, _, _, _ => by cases e
  | d :: ds, y :: ys, acc, e, hl, h, q => by
    rw [List.length_cons] at hl
    refine h 0 (Nat.succ_pos _) (Nat.succ_pos _) (fun z => acc.length < sizeLine ∧ lcD gd dYes te vs r Q ds (acc ++ [z])) ⟨by rw [sizeLine_eq]; omega, ?_⟩
    refine lcD_ix ds ys (acc ++ [y]) (Nat.succ.inj e) (by rw [List.length_append]; show acc.length + 1 + _ ≤ _; omega) (fun k h1 h2 P hP => ?_) ?_
    · exact h (k + 1) (Nat.succ_lt_succ h1) (Nat.succ_lt_succ h2) P hP
    · rw [List.append_assoc]
      exact q
theorem rngD_get {n k : Nat} (h : k < (rngD n).length) : (rngD n)[k] = .int (k : Nat) := by
  have := rngD_at (n := n) (i := k) (by rw [rngD_len] at h; exact h)
  rw [List.getElem?_eq_getElem h] at this
  exact Option.some.inj this
theorem at_int {is : List Int} {k : Nat} (h : k < is.length) : L2.atI (is.map Da.int) ((k : Nat) : Int) = some (.int is[k]) := by
  refine L2.atI_nat ?_
  rw [List.getElem?_map, List.getElem?_eq_getElem h]
  rfl
theorem at_da {is : List Da} {k : Nat} (h : k < is.length) : L2.atI is ((k : Nat) : Int) = some is[k] := by
  refine L2.atI_nat ?_
  rw [List.getElem?_eq_getElem h]

abbrev strsD (ts : List Str) : Da := .tup (ts.map .str)
abbrev rowD (is : List Int) : Da := .tup (is.map .int)
/-- integers up to b either way -/
def Upto (b : Int) (is : List Int) : Prop := ∀ i ∈ is, -b ≤ i ∧ i ≤ b
theorem Upto.at {b : Int} {is : List Int} (h : Upto b is) {k : Nat} (hk : k < is.length) : -b ≤ is[k] ∧ is[k] ≤ b := h _ (List.getElem_mem hk)
theorem mul_upto {i j a b : Int} (h1 : -a ≤ i ∧ i ≤ a) (h2 : -b ≤ j ∧ j ≤ b) : -(a * b) ≤ i * j ∧ i * j ≤ a * b := by
  have ha : (0 : Int) ≤ a := by omega
  have hb : (0 : Int) ≤ b := by omega
  have e : (i * j).natAbs ≤ a.natAbs * b.natAbs := by
    rw [Int.natAbs_mul]
    exact Nat.mul_le_mul (by omega) (by omega)
  have e2 : ((a.natAbs * b.natAbs : Nat) : Int) = a * b := by
    rw [Int.natCast_mul, Int.natAbs_of_nonneg ha, Int.natAbs_of_nonneg hb]
  omega
theorem sum_upto {b : Int} : ∀ {is : List Int}, Upto b is → -(b * is.length) ≤ is.sum ∧ is.sum ≤ b * is.length
  | [], _ => by simp
  | i :: is, h => by
    have h1 := sum_upto (is := is) fun j hj => h j (List.mem_cons_of_mem _ hj)
    have h2 := h i List.mem_cons_self
    rw [List.sum_cons, List.length_cons, Int.natCast_add, Int.mul_add]
    omega
theorem sz_row {is : List Int} {b : Int} (h : Upto b is) (hb : b < 2 ^ 400) {n : Nat} (hn : is.length ≤ n) : Sz (rowD is) 1 (n * 1923 + 3) := by
  refine (sz_tup (n := 0) (c := 1921) fun d hd => ?_).up (Nat.le_refl _) ?_
  · obtain ⟨i, hi, rfl⟩ := List.mem_map.mp hd
    have := h i hi
    exact sz_int' (by omega) (by omega)
  · rw [List.length_map]
    exact Nat.add_le_add_right (Nat.mul_le_mul_right _ hn) 3
theorem eq_true_alike {x : Da} {n c : Nat} (h : Sz x n c) (hn : n ≤ 60) (hc : c ≤ 16777216) : shp x = true ∧ shp x = true ∧ eqd x x = true := ⟨h.shp hn, h.shp hn, eqd_refl h⟩
theorem cmul_small {i j : Int} (h : -1000000 ≤ j ∧ j ≤ 1000000) : CMulA i j := .inl (.inr ⟨by omega, by omega⟩)
theorem cmul_small' {i j : Int} (h : -1000000 ≤ i ∧ i ≤ 1000000) : CMulA i j := .inl (.inl ⟨by omega, by omega⟩)
theorem cmul_wide {i j : Int} (h1 : -(2 ^ 400) < i ∧ i < 2 ^ 400) (h2 : -(2 ^ 400) < j ∧ j < 2 ^ 400) : CMulA i j := by
  refine .inr ?_
  have a := log2_of (i := i) (k := 400) (by omega) (by decide)
  have b := log2_of (i := j) (k := 400) (by omega) (by decide)
  unfold CMulW
  omega
/-! ### texts compared -/
def strEqD : DD := fun x y Q => ∃ i j, x = .str i ∧ y = .str j ∧ Q (.bl (i == j))
theorem ped_eqS {X : Cx} {w : Wd} {a b : Expr} {pos : Pos} {ta tb : TDE} (ha : PEd X w a ta) (hb : PEd X w b tb) : PEd X w (.Compare a [.Eq] [b] pos) (dOp strEqD ta tb) := by
  refine ped_cmp op_eq (nobehind _ (by decide) (by decide)) (fun x y Q Q' q ⟨i, j, a, b, h⟩ => ⟨i, j, a, b, q _ h⟩) ?_ ha hb
  rintro g W H v u x y Q k dx dy ⟨i, j, rfl, rfl, h⟩
  cases dx
  cases dy
  have e : decide (V.str i = V.str j) = (i == j) := by
    rw [Bool.eq_iff_iff]
    simp
  exact ⟨rfl, by rw [e]; exact h.now k (.bl _)⟩
/-! ### loops by what holds ahead of each turn -/
theorem forD_go {gd : TDG} {tb : TDS} {E : EnD} {ds : List Da} (I : Nat → En → Prop) (done : ∀ r, I ds.length r → E.nx r)
    (step : ∀ i d r (nx : En → Prop), ds[i]? = some d → I i r → (∀ r', I (i + 1) r' → nx r') → gd d r fun r1 => tb { E with nx := nx, ct := nx, bk := E.nx } r1) :
    ∀ (es : List Da) (i : Nat) (r : En), ds.drop i = es → I i r → i ≤ ds.length → forD gd tb E es r
  | [], i, r, e, h, hi => by
    have : i = ds.length := by
      have := congrArg List.length e
      rw [List.length_drop, List.length_nil] at this
      omega
    subst this
    exact done r h
  | d :: es, i, r, e, h, hi => by
    have hl : i < ds.length := by
      have := congrArg List.length e
      rw [List.length_drop, List.length_cons] at this
      omega
    have e2 := List.drop_eq_getElem_cons hl
    rw [e] at e2
    injection e2 with e3 e4
    exact step i d r _ (by rw [List.getElem?_eq_getElem hl, e3]) h fun r' hr' => forD_go I done step es (i + 1) r' e4.symm hr' (by omega)
theorem forD_run {gd : TDG} {tb : TDS} {E : EnD} {ds : List Da} (I : Nat → En → Prop) {r : En} (start : I 0 r) (done : ∀ r, I ds.length r → E.nx r)
    (step : ∀ i d r (nx : En → Prop), ds[i]? = some d → I i r → (∀ r', I (i + 1) r' → nx r') → gd d r fun r1 => tb { E with nx := nx, ct := nx, bk := E.nx } r1) : forD gd tb E ds r :=
  forD_go I done step ds 0 r rfl start (Nat.zero_le _)

/-! ### sorted texts -/
theorem srt_strs {a : List Str} : ∃ b : List Str, srt (a.map .str) = b.map .str ∧ b.Perm a := by
  have p : (srt (a.map .str)).Perm (a.map .str) := List.mergeSort_perm _ _
  have q : ∀ (l : List Da), (∀ d ∈ l, ∃ t, d = .str t) → ∃ b : List Str, l = b.map .str := by
    intro l
    induction l with
    | nil => intro _; exact ⟨[], rfl⟩
    | cons d l ih =>
      intro h
      obtain ⟨t, rfl⟩ := h d List.mem_cons_self
      obtain ⟨b, rfl⟩ := ih fun e he => h e (List.mem_cons_of_mem _ he)
      exact ⟨t :: b, rfl⟩
  obtain ⟨b, e⟩ := q (srt (a.map .str)) fun d hd => by
    obtain ⟨t, _, rfl⟩ := List.mem_map.mp (p.mem_iff.mp hd)
    exact ⟨t, rfl⟩
  refine ⟨b, e, ?_⟩
  rw [e] at p
  have z := p.filterMap (fun d => match d with | .str t => some t | _ => none)
  rw [List.filterMap_map, List.filterMap_map] at z
  have f : ∀ l : List Str, l.filterMap ((fun d => match d with | .str t => some t | _ => none) ∘ Da.str) = l := by
    intro l
    induction l with
    | nil => rfl
    | cons x xs ih => rw [List.filterMap_cons]; exact congrArg (x :: ·) ih
  rw [f, f] at z
  exact z
theorem srtOk_strs {a : List Str} (h : a.length ≤ 16777216) : srtOk (a.map .str) := by
  refine ⟨canP_strs a, ?_, .inr ?_, ?_, by rw [List.length_map, sizeLine_eq]; exact h⟩
  · intro d hd d' hd'
    rw [List.map_map] at hd hd'
    obtain ⟨t, _, rfl⟩ := List.mem_map.mp hd
    obtain ⟨t', _, rfl⟩ := List.mem_map.mp hd'
    show PySem.W.alike (toP (.str t)) (toP (.str t')) = true
    rw [toP, toP]
    rfl
  · intro d hd
    rw [List.map_map] at hd
    obtain ⟨t, _, rfl⟩ := List.mem_map.mp hd
    show toP (.str t) ≠ .none ∧ ∀ xs, toP (.str t) ≠ .tuple xs
    rw [toP]
    exact ⟨(fun z => by cases z), (fun xs z => by cases z)⟩
  · intro d hd
    obtain ⟨t, _, rfl⟩ := List.mem_map.mp hd
    rw [toP, PyData.depth]
    exact Nat.zero_le _
/-! ### from nothing -/
theorem lcD_all0 {gd : TDG} {te : TDE} {vs : List Nat} {r : En} {Q : Da → Prop} (F : Da → Da → Prop) (ds : List Da) (hl : ds.length ≤ 16777216)
    (h : ∀ d ∈ ds, ∀ P : Da → Prop, (∀ y, F d y → P y) → gd d (wipeD r vs) fun r2 => te r2 P) (q : ∀ ys, Paired F ds ys → Q (.lst ys)) : lcD gd dYes te vs r Q ds [] :=
  lcD_all F ds [] (by rw [List.length_nil]; omega) h q
theorem lcD_ix0 {gd : TDG} {te : TDE} {vs : List Nat} {r : En} {Q : Da → Prop} (ds res : List Da) (e : res.length = ds.length) (hl : ds.length ≤ 16777216)
    (h : ∀ (k : Nat) (h1 : k < ds.length) (h2 : k < res.length) (P : Da → Prop), P res[k] → gd ds[k] (wipeD r vs) fun r2 => te r2 P) (q : Q (.lst res)) : lcD gd dYes te vs r Q ds [] :=
  lcD_ix ds res [] e (by rw [List.length_nil]; omega) h q
end Pd
/-! The head of a law whose promise is told with the guards (FnG): it is called with nothing tracked but the script. -/
namespace Pd
open PySem PySem.Spec PyProof.Rows L2

theorem ints_vals {ns : List Int} {us : List Value} (h : IntsAre us ns) : Vals (ns.map V.int) us := by
  induction h with
  | nil => exact .nil
  | cons n t _ ih => exact .cons ⟨t, rfl⟩ ih

/-- what the caller wants of the answer -/
abbrev Told (s1 : Shared) : Result → Shared → Prop := fun r s2 => r = .ok (.ret (.bool true)) ∧ OldK s1.heap s2.heap ∧ s2.os = s1.os ∧ AllBare s2.gens

section
variable {P : Program} {wd : World} {K : PySem.W.Frag} {mg mb : Str → Option Value} {k : Nat} {fa a : Addr} {fd : FuncData} {x : Str} {sp : Sp} {s1 : Shared} {us : List Value} {ns : List Int}
theorem top_in (inK : K.In s1.heap) (gl : s1.heap.Ns mainGlobals mg) (bu : s1.heap.Ns builtinsNs mb) (bo : ∀ y : Str, y ≠ "__name__" → mb y = bootBuiltins y) (nl : s1.heap.NoLimit) (g0 : s1.gens = #[])
    (at_a : s1.heap.get? a = some { cls := .type "list", data := .seq us.toArray }) (room : Room k callerA)
    (F : ∀ base : Heap, K.In base → base.Ns mainGlobals mg → FnG P wd K mg base CX0 k fa fd [x] sp) (bd : ∀ (s : Shared) (u : Value), BindsTo s fd ⟨[u], []⟩ [(x, u)])
    (pre : ∀ H : Hp, SqL K H a (ns.map V.int) → sp [.ref a] H (fun v _ => v = .bl true) fun _ _ _ => False)
    (H : Hp) (script : SqL K H a (ns.map V.int)) (fits : HOk P wd H s1.heap) (sole : ∀ b u, H b = some u → b = a ∧ K.lookup a = none ∧ ∃ o xs, u = .frz o (.lst xs)) :
    codeAny (model P wd) callerA (.call (.ref fa) ⟨[.ref a], []⟩) (Told s1) s1 := by
  have plain : ∀ {b : Addr}, b ≠ a → H b = none := fun {b} n => by
    cases e : H b with
    | none => rfl
    | some u => exact absurd (sole b u e).1 n
  have seen : ∀ {b : Addr} {m : Str → Option Value}, s1.heap.Ns b m → (hidT s1.heap H).Ns b m := by
    rintro b m ⟨o, es, ep, at_b, isd, rest⟩
    refine ⟨o, es, ep, hidT_get at_b (plain fun z => ?_), isd, rest⟩
    rw [z] at at_b
    have eo := Option.some.inj (at_a.symm.trans at_b)
    rw [← eo] at isd
    cases isd
  have inB : K.In (hidT s1.heap H) := fun b o at_b => by
    refine hidT_get (inK b o at_b) ?_
    cases e : H b with
    | none => rfl
    | some u =>
      obtain ⟨z1, z2, _⟩ := sole b u e
      rw [z1, z2] at at_b
      cases at_b
  have lim : (hidT s1.heap H).NoLimit := by
    obtain ⟨mc, q1, q2⟩ := nl
    exact ⟨mc, seen q1, q2⟩
  have start0 : Env0 P wd K mg (hidT s1.heap H) callerA [] s1 H :=
    ⟨rfl, ⟨inB, seen gl, ⟨mb, seen bu, bo⟩, lim⟩, fun b o e => of_hidT e, Nat.le_of_eq (hidT_size _ _), trivial, fun b z => absurd (show b ∈ ([] : List Addr) from z) List.not_mem_nil, fits, .of_eq g0⟩
  have all := (F _ inB (seen gl)).goes callerA [] s1 H ⟨[.ref a], []⟩ [.ref a] [.ref a] _ _ room rfl start0 (bd s1 (.ref a)) (.cons rfl .nil) (pre H script)
  refine codeAny_mono all ?_
  rintro (e | fl) s2 out
  · exact False.elim out
  · match fl, out with
    | .next, out => exact out.elim
    | .brk, out => exact out.elim
    | .cont, out => exact out.elim
    | .ret u, out =>
      obtain ⟨v, H2, sameOs, bare, un, fits2, rel, yes⟩ := out
      have yes' : v = .bl true := yes
      subst yes'
      have eu : u = Value.bool true := rel
      subst eu
      refine ⟨rfl, OldK.of_keep ?_, sameOs, bare⟩
      intro b o at_b
      cases e : H b with
      | none => exact un.keep b o at_b e (fun z => List.not_mem_nil (show b ∈ ([] : List Addr) from z)) (by simp)
      | some u =>
        obtain ⟨_, _, o', xs, z⟩ := sole b u e
        rw [z] at e
        have t1 := (fits b _ e).1
        have t2 := (fits2 b _ (un.frzs b o' _ e)).1
        rw [at_b] at t1
        rw [Option.some.inj t1]
        exact t2
theorem top_call (inK : K.In s1.heap) (gl : s1.heap.Ns mainGlobals mg) (bu : s1.heap.Ns builtinsNs mb) (bo : ∀ y : Str, y ≠ "__name__" → mb y = bootBuiltins y) (nl : s1.heap.NoLimit) (g0 : s1.gens = #[])
    (at_a : s1.heap.get? a = some { cls := .type "list", data := .seq us.toArray }) (iv : IntsAre us ns) (le : ns.length ≤ sizeLine) (room : Room k callerA)
    (F : ∀ base : Heap, K.In base → base.Ns mainGlobals mg → FnG P wd K mg base CX0 k fa fd [x] sp) (bd : ∀ (s : Shared) (u : Value), BindsTo s fd ⟨[u], []⟩ [(x, u)])
    (pre : ∀ H : Hp, SqL K H a (ns.map V.int) → sp [.ref a] H (fun v _ => v = .bl true) fun _ _ _ => False) :
    codeAny (model P wd) callerA (.call (.ref fa) ⟨[.ref a], []⟩) (Told s1) s1 := by
  have rel := ints_vals iv
  have hl := iv.length
  cases e : K.lookup a with
  | some o =>
    have t := inK a o e
    rw [at_a] at t
    cases t
    refine top_in inK gl bu bo nl g0 at_a room F bd pre (fun _ => none) (.inr ⟨_, us.toArray, _, e, rfl, rfl, rfl, ?_, ?_⟩) (fun b u z => ?_) (fun b u z => ?_)
    · rw [List.size_toArray, hl]
      exact le
    · simpa using rel
    · cases (show (none : Option HO) = some u from z)
    · cases (show (none : Option HO) = some u from z)
  | none =>
    have only : ∀ b u, (if b = a then some (HO.frz { cls := .type "list", data := .seq us.toArray } (.lst (ns.map V.int))) else none) = some u → b = a ∧ u = HO.frz { cls := .type "list", data := .seq us.toArray } (.lst (ns.map V.int)) := fun b u z => by
      by_cases q : b = a
      · rw [if_pos q] at z
        exact ⟨q, (Option.some.inj z).symm⟩
      · rw [if_neg q] at z
        cases z
    refine top_in inK gl bu bo nl g0 at_a room F bd pre (fun b => if b = a then some (.frz { cls := .type "list", data := .seq us.toArray } (.lst (ns.map V.int))) else none) (.inl (.inr ⟨_, if_pos rfl⟩)) (fun b u z => ?_) (fun b u z => ?_)
    · obtain ⟨q1, q2⟩ := only b u z
      subst q1 q2
      exact ⟨at_a, by rw [List.length_map]; exact le, us, _, rel, at_a⟩
    · obtain ⟨q1, q2⟩ := only b u z
      exact ⟨q1, e, _, _, q2⟩
end
/-- the goal that is left for the law's promise -/
theorem top_walk {l : PySem.W.OpenLaw} {n k : Nat} {q : Program} {loose : List Str} {XP : (Str → Option Value) → Heap → Prop} {YP : World → Heap → Prop} {d : DefRec} {K : Params → PySem.W.Frag} {sp : World → Sp} {x : Str}
    (most : l.most = some n) (le : n ≤ sizeLine) (nodef : d.params.defaults = []) (room : Room k callerA) (inY : ∀ (w : World) (h : Heap), YP w h → (K w.params).In h)
    (F : ∀ (w : World) (mg : Str → Option Value) (fa : Addr) (h : Heap), (K w.params).In h → h.Ns mainGlobals mg → mg d.name = some (.ref fa) →
      ∃ fd : FuncData, (∀ (s : Shared) (u : Value), BindsTo s fd ⟨[u], []⟩ [(x, u)]) ∧ ∀ base : Heap, (K w.params).In base → base.Ns mainGlobals mg → FnG l.prog w (K w.params) mg base CX0 k fa fd [x] (sp w))
    (pre : ∀ (w : World) (H : Hp) (a : Addr) (ns : List Int), ns.length ≤ n → SqL (K w.params) H a (ns.map V.int) → sp w [.ref a] H (fun v _ => v = .bl true) fun _ _ _ => False) :
    PySem.W.WalkO q loose XP YP l.row.toRowW d [] (fun f vs => PySem.call f vs) := by
  apply Att.attach_call most nodef
  intro w s0 s1 mg mb fa o pm cd doc a us ns G Y at_f isf hc at_x at_a iv hl g0
  obtain ⟨fd, bd, prom⟩ := F w mg fa s1.heap (inY w _ Y) G.T.g at_x
  exact top_call (inY w _ Y) G.T.g G.T.b G.T.builtins G.T.nolimit g0 at_a iv (Nat.le_trans hl le) room prom bd fun H script => pre w H a ns hl script
/-- a def by what the top has written -/
theorem defAt_mk {K : PySem.W.Frag} {mg : Str → Option Value} {h : Heap} {x : Str} {st : Stmt} {ps : List Str} {f : Addr} {oc kV dc pm cd ct : Value} {od an : Option Addr} {sl : Array (Option Value)} (inK : K.In h) (gl : h.Ns mainGlobals mg)
    (a : PySem.W.nsIn K mainGlobals x = some (some (.ref f))) (l : K.lookup f = some ⟨oc, od, .func (PySem.W.fnOf x x (defArgs st) (defBody st) (defScope st) .none kV dc pm an cd ct), sl⟩) (c : PySem.W.codeIn K cd x = true) (k : PySem.W.keepIn K (.ref f) = true)
    (b : ∀ (kV doc pm : Value) (an : Option Addr) (cdv ct : Value) (us : List Value), us.length = ps.length → bindArgs (PySem.W.fnOf x x (defArgs st) (defBody st) (defScope st) .none kV doc pm an cdv ct) ⟨us, []⟩ = pure (ps.zip us)) : DefAt K mg x st ps :=
  ⟨f, _, fun_mk l c k, PySem.W.mg_of inK gl a, (fun_mk l c k).binds b⟩
end Pd
namespace K13
open PySem PySem.Spec PyProof.Rows L2 Pd
def topS (i : Nat) : Stmt := PySem.Challenge.pw_asmuchas_k13_rows_reckoned.main.body.getD i (.Pass ⟨0, 0, 0, 0⟩)
abbrev s_bag : Stmt := topS 9
abbrev s_take : Stmt := topS 10
abbrev N_take : List Str := ["_law_bag_here", "_law_many", "_law_cell", "_law_mixed", "_law_value", "_law_begin", "_law_second"]
theorem sc_take : FnScope N_take ["_law_bag_here", "_law_many"] (defScope s_take) := ⟨rfl, rfl, rfl, by decide +kernel, rfl, by decide +kernel, by decide +kernel⟩
abbrev sp_row_of : Stmt := topS 1
abbrev Np_row_of : List Str := ["things", "pair", "one", "other", "name"]
theorem scp_row_of : FnScope Np_row_of ["things", "pair"] (defScope sp_row_of) := ⟨rfl, rfl, rfl, by decide +kernel, rfl, by decide +kernel, by decide +kernel⟩

abbrev sp_added : Stmt := topS 2
abbrev Np_added : List Str := ["one", "other", "part", "further"]
theorem scp_added : FnScope Np_added ["one", "other"] (defScope sp_added) := ⟨rfl, rfl, rfl, by decide +kernel, rfl, by decide +kernel, by decide +kernel⟩

abbrev sp_taken : Stmt := topS 3
abbrev Np_taken : List Str := ["one", "other", "part", "less"]
theorem scp_taken : FnScope Np_taken ["one", "other"] (defScope sp_taken) := ⟨rfl, rfl, rfl, by decide +kernel, rfl, by decide +kernel, by decide +kernel⟩

abbrev sp_times : Stmt := topS 4
abbrev Np_times : List Str := ["row", "number", "part"]
theorem scp_times : FnScope Np_times ["row", "number"] (defScope sp_times) := ⟨rfl, rfl, rfl, by decide +kernel, rfl, by decide +kernel, by decide +kernel⟩

abbrev sp_mixture : Stmt := topS 5
abbrev Np_mixture : List Str := ["rows", "numbers", "many", "whole", "row", "number"]
theorem scp_mixture : FnScope Np_mixture ["rows", "numbers", "many"] (defScope sp_mixture) := ⟨rfl, rfl, rfl, by decide +kernel, rfl, by decide +kernel, by decide +kernel⟩

abbrev sp_dot : Stmt := topS 6
abbrev Np_dot : List Str := ["one", "other", "part", "further"]
theorem scp_dot : FnScope Np_dot ["one", "other"] (defScope sp_dot) := ⟨rfl, rfl, rfl, by decide +kernel, rfl, by decide +kernel, by decide +kernel⟩

abbrev sp_is_balanced : Stmt := topS 7
abbrev Np_is_balanced : List Str := ["row"]
theorem scp_is_balanced : FnScope Np_is_balanced ["row"] (defScope sp_is_balanced) := ⟨rfl, rfl, rfl, by decide +kernel, rfl, by decide +kernel, by decide +kernel⟩

abbrev s_alike : Stmt := topS 11
abbrev N_alike : List Str := ["_law_found", "_law_due"]
theorem sc_alike : FnScope N_alike ["_law_found", "_law_due"] (defScope s_alike) := ⟨rfl, rfl, rfl, by decide +kernel, rfl, by decide +kernel, by decide +kernel⟩

abbrev s_one : Stmt := topS 12
abbrev N_one : List Str := ["_law_bag_here", "_law_things_here"]
theorem sc_one : FnScope N_one ["_law_bag_here", "_law_things_here"] (defScope s_one) := ⟨rfl, rfl, rfl, by decide +kernel, rfl, by decide +kernel, by decide +kernel⟩

abbrev s_things : Stmt := topS 13
abbrev N_things : List Str := ["_law_bag_here", "_law_many", "_law_menu", "_law_way", "_law_turn", "_law_letters", "_law_stem", "_law_k"]
theorem sc_things : FnScope N_things ["_law_bag_here", "_law_many"] (defScope s_things) := ⟨rfl, rfl, rfl, by decide +kernel, rfl, by decide +kernel, by decide +kernel⟩

abbrev s_sum : Stmt := topS 14
abbrev N_sum : List Str := ["_law_bag_here", "_law_things_here", "_law_many", "_law_k"]
theorem sc_sum : FnScope N_sum ["_law_bag_here", "_law_things_here", "_law_many"] (defScope s_sum) := ⟨rfl, rfl, rfl, by decide +kernel, rfl, by decide +kernel, by decide +kernel⟩

abbrev s_pair : Stmt := topS 15
abbrev N_pair : List Str := ["_law_bag_here", "_law_things_here", "_law_many", "_law_way", "_law_one_here"]
theorem sc_pair : FnScope N_pair ["_law_bag_here", "_law_things_here"] (defScope s_pair) := ⟨rfl, rfl, rfl, by decide +kernel, rfl, by decide +kernel, by decide +kernel⟩

abbrev s_row : Stmt := topS 16
abbrev N_row : List Str := ["_law_things_here", "_law_pair_here", "_law_name"]
theorem sc_row : FnScope N_row ["_law_things_here", "_law_pair_here"] (defScope s_row) := ⟨rfl, rfl, rfl, by decide +kernel, rfl, by decide +kernel, by decide +kernel⟩

abbrev s_dot : Stmt := topS 17
abbrev N_dot : List Str := ["_law_one_here", "_law_other", "_law_at"]
theorem sc_dot : FnScope N_dot ["_law_one_here", "_law_other"] (defScope s_dot) := ⟨rfl, rfl, rfl, by decide +kernel, rfl, by decide +kernel, by decide +kernel⟩

abbrev s_mixture : Stmt := topS 18
abbrev N_mixture : List Str := ["_law_rows", "_law_numbers", "_law_many", "_law_found", "_law_k", "_law_at"]
theorem sc_mixture : FnScope N_mixture ["_law_rows", "_law_numbers", "_law_many"] (defScope s_mixture) := ⟨rfl, rfl, rfl, by decide +kernel, rfl, by decide +kernel, by decide +kernel⟩

abbrev s_worths : Stmt := topS 19
abbrev N_worths : List Str := ["_law_bag_here", "_law_things_here", "_law_low", "_law_high", "_law_name"]
theorem sc_worths : FnScope N_worths ["_law_bag_here", "_law_things_here", "_law_low", "_law_high"] (defScope s_worths) := ⟨rfl, rfl, rfl, by decide +kernel, rfl, by decide +kernel, by decide +kernel⟩

abbrev s_worth : Stmt := topS 20
abbrev N_worth : List Str := ["_law_worths_here", "_law_one_here", "_law_name"]
theorem sc_worth : FnScope N_worth ["_law_worths_here", "_law_one_here"] (defScope s_worth) := ⟨rfl, rfl, rfl, by decide +kernel, rfl, by decide +kernel, by decide +kernel⟩

abbrev s_drawn_row : Stmt := topS 21
abbrev N_drawn_row : List Str := ["_law_bag_here", "_law_many", "_law_top", "_law_k"]
theorem sc_drawn_row : FnScope N_drawn_row ["_law_bag_here", "_law_many"] (defScope s_drawn_row) := ⟨rfl, rfl, rfl, by decide +kernel, rfl, by decide +kernel, by decide +kernel⟩

abbrev s_pair_right : Stmt := topS 22
abbrev N_pair_right : List Str := ["_law_bag_here", "_law_things_here", "_law_pair_here", "_law_row_here", "_law_worths_here", "_law_due", "_law_name"]
theorem sc_pair_right : FnScope N_pair_right ["_law_bag_here", "_law_things_here"] (defScope s_pair_right) := ⟨rfl, rfl, rfl, by decide +kernel, rfl, by decide +kernel, by decide +kernel⟩

abbrev s_rows_right : Stmt := topS 23
abbrev N_rows_right : List Str := ["_law_bag_here", "_law_many", "_law_one_here", "_law_other", "_law_number", "_law_found", "_law_due", "_law_rows", "_law_numbers", "_law_handed", "_law_k", "_law_part", "_law_row_here"]
theorem sc_rows_right : FnScope N_rows_right ["_law_bag_here", "_law_many"] (defScope s_rows_right) := ⟨rfl, rfl, rfl, by decide +kernel, rfl, by decide +kernel, by decide +kernel⟩

structure Txt (K : PySem.W.Frag) (mg : Str → Option Value) : Prop where
  d_take : DefAt K mg "_law_take" s_take ["_law_bag_here", "_law_many"]
  dp_row_of : DefAt K mg "row_of" sp_row_of ["things", "pair"]
  dp_added : DefAt K mg "added" sp_added ["one", "other"]
  dp_taken : DefAt K mg "taken" sp_taken ["one", "other"]
  dp_times : DefAt K mg "times" sp_times ["row", "number"]
  dp_mixture : DefAt K mg "mixture" sp_mixture ["rows", "numbers", "many"]
  dp_dot : DefAt K mg "dot" sp_dot ["one", "other"]
  dp_is_balanced : DefAt K mg "is_balanced" sp_is_balanced ["row"]
  d_alike : DefAt K mg "_law_alike" s_alike ["_law_found", "_law_due"]
  d_one : DefAt K mg "_law_one" s_one ["_law_bag_here", "_law_things_here"]
  d_things : DefAt K mg "_law_things" s_things ["_law_bag_here", "_law_many"]
  d_sum : DefAt K mg "_law_sum" s_sum ["_law_bag_here", "_law_things_here", "_law_many"]
  d_pair : DefAt K mg "_law_pair" s_pair ["_law_bag_here", "_law_things_here"]
  d_row : DefAt K mg "_law_row" s_row ["_law_things_here", "_law_pair_here"]
  d_dot : DefAt K mg "_law_dot" s_dot ["_law_one_here", "_law_other"]
  d_mixture : DefAt K mg "_law_mixture" s_mixture ["_law_rows", "_law_numbers", "_law_many"]
  d_worths : DefAt K mg "_law_worths" s_worths ["_law_bag_here", "_law_things_here", "_law_low", "_law_high"]
  d_worth : DefAt K mg "_law_worth" s_worth ["_law_worths_here", "_law_one_here"]
  d_drawn_row : DefAt K mg "_law_drawn_row" s_drawn_row ["_law_bag_here", "_law_many"]
  d_pair_right : DefAt K mg "_law_pair_right" s_pair_right ["_law_bag_here", "_law_things_here"]
  d_rows_right : DefAt K mg "_law_rows_right" s_rows_right ["_law_bag_here", "_law_many"]

  m_len : mg "len" = none
  m_int : mg "int" = none
  m_dict : mg "dict" = none
  m_list : mg "list" = none
  m_range : mg "range" = none
  m_repr : mg "repr" = none
  m_sorted : mg "sorted" = none
  m_sum : mg "sum" = none
  m_tuple : mg "tuple" = none
  m_zip : mg "zip" = none
section
variable {P : Program} {wd : World} {K : PySem.W.Frag} {mg : Str → Option Value} {base : Heap}
/-- the heap in a draw -/
theorem take_sq {H0 H : Hp} {g c : Addr} {cs : List Int} {x y : Int} {z : Nat} (B : BagT K H0 g c cs H x y z) : SqL K H g [.int x, .int y, .int z, .ref c] := SqL.of B.at_g
theorem at0 {a b c d : V} : atI [a, b, c, d] 0 = some a := atI_nat (j := 0) rfl
theorem at1 {a b c d : V} : atI [a, b, c, d] 1 = some b := atI_nat (j := 1) rfl
theorem at2 {a b c d : V} : atI [a, b, c, d] 2 = some c := atI_nat (j := 2) rfl
theorem at3 {a b c d : V} : atI [a, b, c, d] 3 = some d := atI_nat (j := 3) rfl
theorem seq_via {t u : TS} {D : Ends} {σ : L2.St} {H : Hp} (I : L2.St → Hp → Prop) (h2 : ∀ σ' H', I σ' H' → u D σ' H') (h1 : (∀ σ' H', I σ' H' → u D σ' H') → t { D with nx := u D } σ H) : tSeq t u D σ H := h1 h2
theorem seq_c {v : V} {i : Nat} {u : TS} {D : Ends} {σ : L2.St} {H : Hp} (h : u D (σ.set i (some v)) H) : tSeq (tAsg (tC v) (gName i)) u D σ H := h
/-- in a draw: the slots and the heap -/
structure TkI (K : PySem.W.Frag) (H0 : Hp) (g c : Addr) (cs : List Int) (n : Int) (σ : L2.St) (H : Hp) : Prop where
  ex : ∃ x y z u2 u3 u4 u5 u6, σ = [some (.ref g), some (.int n), u2, u3, u4, u5, u6] ∧ BagT K H0 g c cs H x y z
theorem ok_take (T : Txt K mg) : Calld P wd K mg base 1 "_law_take" ["_law_bag_here", "_law_many"] pTake := by
  obtain ⟨f, fd, F, at_f, bd⟩ := T.d_take.ex
  refine ⟨⟨f, fd, FunG.ok F sc_take ?_ ?_, at_f, F.kp, bd⟩, pTake_mo⟩
  · rintro vs H Q E ⟨g, W, ds, k, dv, n, rfl, _⟩
    exact dv.len
  · rintro cdv A outer s0 H vs Q E hr hG ⟨gg, W, ds, k, dv, n, rfl, hn, hn9, h⟩
    obtain ⟨v1, v2, rfl, d1, d2⟩ := dv.two
    cases d2
    cases d1 with
    | @bag g eg =>
    obtain ⟨x0, y0, z0, c, cs, b1, b2⟩ := k.bag g eg
    obtain ⟨b3, b4⟩ := hid_some b2
    have neg : c ≠ g := fun z => by rw [z, k.gW g eg] at b3; cases b3
    have B0 : BagT K H g c cs H x0 y0 z0 := ⟨fun _ _ _ h => h, b1, b4, neg⟩
    -- what is told at the end
    have fin : ∀ (r : Int) (H' : Hp) (x y : Int) (z : Nat), 0 ≤ r → r < n → BagT K H g c cs H' x y z → Q (.int r) H' := by
      intro r H' x y z r0 r1 B
      have e : Ext gg H H' := fun b o nb hb => B.keep b o (fun z => nb (by rw [z]; exact eg)) hb
      refine h r r0 r1 _ H' e ⟨fun a ha => ?_, k.gW, fun a ha => ?_⟩ (.int r)
      · have : a = g := Option.some.inj (ha.symm.trans eg)
        subst this
        exact ⟨x, y, z, c, cs, B.at_g, by rw [hid_no b3]; exact B.at_c⟩
      · by_cases z' : a = g
        · exact ⟨_, by rw [z']; exact B.at_g⟩
        · obtain ⟨o, q⟩ := k.al a ha
          exact ⟨o, B.keep a o z' q⟩
    refine ⟨_, pss_cons (ps_if (pt_cmp (pc_eqI (pe_ix ix_list (pv 0) pe_int (fun _ _ => rfl)) pe_int))
        (pss_cons (ps_set (i := 2) sc_take.nd rfl (.inl rfl) pe_int)
        (pss_cons (ps_if (pt_cmp (pc_lt (pe_ix ix_list (pv 0) pe_int (fun _ _ => rfl)) (pe_callB call_len_seq (by rfl) T.m_len PySem.boot_len (pa_cons (pe_ix ix_list (pv 0) pe_int (fun _ _ => rfl)) pa_nil))))
            (pss_one (ps_set (i := 2) sc_take.nd rfl (.inl rfl) (pe_ix ix_list (pe_ix ix_list (pv 0) pe_int (fun _ _ => rfl)) (pe_ix ix_list (pv 0) pe_int (fun _ _ => rfl)) (fun _ _ => rfl)))) pss_nil)
        (pss_cons (ps_augS (pv 0) pe_int pget_list pe_int ip_add set_list)
        (pss_cons (ps_if (pt_cmp (pc_ge (pv 2) pe_int)) (pss_one (ps_asg (pv 2) (pg_sub (pv 0) pe_int set_list))) pss_nil)
        (pss_cons (ps_set (i := 3) sc_take.nd rfl (.inl rfl) (pe_op op_add (pe_op op_add (pe_op op_mul (pe_ix ix_list (pv 0) pe_int (fun _ _ => rfl)) pe_int)
            (pe_op op_mod (pe_callTy call_int1 (by rfl) T.m_int (by decide +kernel) (pa_cons (pv 2) pa_nil)) pe_int)) (pe_op op_mul pe_int (pe_ix ix_list (pv 0) pe_int (fun _ _ => rfl)))))
        (pss_one (ps_asg (pe_op op_mod (pe_callTy call_int1 (by rfl) T.m_int (by decide +kernel) (pa_cons (pv 3) pa_nil)) pe_int) (pg_sub (pv 0) pe_int set_list)))))))) pss_nil)
      (pss_cons (ps_if (pt_cmp (pc_gt (pe_ix ix_list (pv 0) pe_int (fun _ _ => rfl)) pe_int))
        (pss_cons (ps_set (i := 4) sc_take.nd rfl (.inl rfl) (pe_op op_mod (pe_callTy call_int1 (by rfl) T.m_int (by decide +kernel) (pa_cons (pe_ix ix_list (pv 0) pe_int (fun _ _ => rfl)) pa_nil)) (pv 1)))
        (pss_cons (ps_asg (pe_op op_fdivW (pe_ix ix_list (pv 0) pe_int (fun _ _ => rfl)) (pv 1)) (pg_sub (pv 0) pe_int set_list))
        (pss_one (ps_ret (pv 4))))) pss_nil)
      (pss_cons (ps_set (i := 5) sc_take.nd rfl (.inl rfl) (pe_op op_mod (pe_callTy call_int1 (by rfl) T.m_int (by decide +kernel) (pa_cons (pe_op op_mul (pe_op op_add (pe_ix ix_list (pv 0) pe_int (fun _ _ => rfl)) pe_int) pe_int) pa_nil)) pe_int))
      (pss_cons (ps_set (i := 6) sc_take.nd rfl (.inl rfl) (pe_op op_mod (pe_callTy call_int1 (by rfl) T.m_int (by decide +kernel) (pa_cons (pe_op op_mul (pe_op op_mod (pe_callTy call_int1 (by rfl) T.m_int (by decide +kernel) (pa_cons (pe_op op_mul (pv 5) (pv 5)) pa_nil)) pe_int) pe_int) pa_nil)) pe_int))
      (pss_cons (ps_if (pt_cmp (pc_gt (pv 1) pe_int)) (pss_one (ps_ret (pe_op op_mod (pe_callTy call_int1 (by rfl) T.m_int (by decide +kernel) (pa_cons (pe_op op_add (pe_op op_mul (pv 6) pe_int) (pv 5)) pa_nil)) (pv 1)))) pss_nil)
      (pss_one (ps_ret (pe_op op_mod (pe_callTy call_int1 (by rfl) T.m_int (by decide +kernel) (pa_cons (pe_op op_fdiv (pv 6) pe_int) pa_nil)) (pv 1)))))))), ?_⟩
    refine seq_via (fun σ' H' => TkI K H g c cs n σ' H') (fun σ' H' I => ?_) (fun rest => ?_)
    · obtain ⟨x, y, z, u2, u3, u4, u5, u6, rfl, B⟩ := I.ex
      -- if bag[0] > 0
      refine ⟨.ref g, rfl, g, _, 0, _, rfl, rfl, SqL.of B.at_g, at0, x, 0, rfl, rfl, _, rfl, ite2 (fun hx => ?_) (fun hx => ?_)⟩
      · -- value, the bag's first place, return
        refine ⟨.ref g, rfl, g, _, 0, _, rfl, rfl, SqL.of B.at_g, at0, .inl ⟨x, rfl, .int n, rfl, x, n, rfl, rfl, hn, ?_⟩⟩
        refine ⟨.ref g, rfl, g, _, 0, _, rfl, rfl, SqL.of B.at_g, at0, .int n, rfl, x, n, rfl, rfl, ⟨hn, hn9⟩, ?_⟩
        refine ⟨.ref g, rfl, g, _, 0, 0, rfl, rfl, B.at_g, ix4 (n := 4) (k := 0) (j := 0) rfl (by decide), ?_⟩
        refine ⟨.int (x % n), rfl, ?_⟩
        have m := mod_lt (i := x) hn
        exact fin _ _ _ _ _ m.1 m.2 B.put
      · -- begin, second
        refine ⟨.ref g, rfl, g, _, 1, _, rfl, rfl, SqL.of B.at_g, at1, y, 1, rfl, rfl, y + 1, 39373, rfl, rfl, mul_ok (by decide) (by decide), .inl ⟨_, rfl, _, 1000000007, rfl, rfl, (by decide : (0 : Int) < 1000000007), ?_⟩⟩
        have m1 := mod_lt (i := (y + 1) * 39373) (n := 1000000007) (by decide)
        refine ⟨_, rfl, _, rfl, (y + 1) * 39373 % 1000000007, (y + 1) * 39373 % 1000000007, rfl, rfl, mul_ok m1.1 (by omega), .inl ⟨_, rfl, _, 998244353, rfl, rfl, (by decide : (0 : Int) < 998244353), ?_⟩⟩
        refine ⟨_, 30011, rfl, rfl, mul_ok (by decide) (by decide), .inl ⟨_, rfl, _, 998244353, rfl, rfl, (by decide : (0 : Int) < 998244353), ?_⟩⟩
        refine ⟨.int n, rfl, n, 1000000, rfl, rfl, _, rfl, ite2 (fun hx => ?_) (fun hx => ?_)⟩
        · refine ⟨_, rfl, _, 1000000007, rfl, rfl, mul_ok (by decide) (by decide), _, rfl, _, _, rfl, rfl, .inl ⟨_, rfl, .int n, rfl, _, n, rfl, rfl, hn, ?_⟩⟩
          exact fin _ _ _ _ _ (mod_lt hn).1 (mod_lt hn).2 B
        · refine ⟨_, rfl, _, 7, rfl, rfl, ⟨by decide, by decide⟩, .inl ⟨_, rfl, .int n, rfl, _, n, rfl, rfl, hn, ?_⟩⟩
          exact fin _ _ _ _ _ (mod_lt hn).1 (mod_lt hn).2 B
    · refine ⟨.ref g, rfl, g, _, 0, _, rfl, rfl, SqL.of B0.at_g, at0, x0, 0, rfl, rfl, _, rfl, ite2 (fun hx => ?_) (fun hx => ?_)⟩
      · -- a new cell
        refine seq_c ?_
        refine seq_via (fun σ' H' => ∃ cell : Int, σ' = [some (.ref g), some (.int n), some (.int cell), none, none, none, none] ∧ H' = H) (fun σ' H' I => ?_) (fun rest1 => ?_)
        · obtain ⟨cell, rfl, rfl⟩ := I
          -- bag[2] += 1
          refine ⟨.ref g, rfl, g, _, 2, _, rfl, rfl, SqL.of B0.at_g, at2, (z0 : Int), 1, rfl, rfl, ?_⟩
          refine ⟨g, _, 2, 2, rfl, rfl, B0.at_g, ix4 (n := 4) (k := 2) (j := 2) rfl (by decide), ?_⟩
          have B1 : BagT K H' g c cs (upd H' g (bagL x0 y0 (z0 + 1) c)) x0 y0 (z0 + 1) := B0.put
          dsimp only
          refine seq_via (fun σ'' H'' => ∃ x1 : Int, σ'' = [some (.ref g), some (.int n), some (.int cell), none, none, none, none] ∧ BagT K H' g c cs H'' x1 y0 (z0 + 1)) (fun σ'' H'' I => ?_) (fun rest2 => ?_)
          · obtain ⟨x1, rfl, B2⟩ := I
            refine ⟨.ref g, rfl, g, _, 1, _, rfl, rfl, SqL.of B2.at_g, at1, y0, 48271, rfl, rfl, mul_ok (by decide) (by decide), .int cell, rfl, .inl ⟨cell, rfl, cell, 2147483647, rfl, rfl, (by decide : (0 : Int) < 2147483647), ?_⟩⟩
            refine ⟨_, _, rfl, rfl, .ref g, rfl, g, _, 2, _, rfl, rfl, SqL.of B2.at_g, at2, 7919, _, rfl, rfl, .inl ⟨by decide, by decide⟩, _, _, rfl, rfl, ?_⟩
            refine ⟨_, rfl, .inl ⟨_, rfl, _, 2147483647, rfl, rfl, (by decide : (0 : Int) < 2147483647), ?_⟩⟩
            refine ⟨.ref g, rfl, g, _, 1, 1, rfl, rfl, B2.at_g, ix4 (n := 4) (k := 1) (j := 1) rfl (by decide), ?_⟩
            exact rest _ _ ⟨⟨x1, _, z0 + 1, _, _, _, _, _, rfl, B2.put⟩⟩
          · refine ⟨.int cell, rfl, cell, 1000000000000000000, rfl, rfl, _, rfl, ite2 (fun hx => ?_) (fun hx => ?_)⟩
            · refine ⟨.int cell, rfl, .ref g, rfl, g, _, 0, 0, rfl, rfl, B1.at_g, ix4 (n := 4) (k := 0) (j := 0) rfl (by decide), ?_⟩
              exact rest2 _ _ ⟨cell, rfl, B1.put⟩
            · exact rest2 _ _ ⟨x0, rfl, B1⟩
        · -- if bag[2] < len(bag[3])
          refine ⟨.ref g, rfl, g, _, 2, _, rfl, rfl, SqL.of B0.at_g, at2, .ref g, rfl, g, _, 3, _, rfl, rfl, SqL.of B0.at_g, at3, c, _, rfl, .inl (SqL.of b4), (z0 : Int), _, rfl, rfl, _, rfl, ite2 (fun hx => ?_) (fun hx => ?_)⟩
          · have hl : z0 < cs.length := by
              have q := of_decide_eq_true hx
              rw [List.length_map] at q
              omega
            have hc : (cs.map V.int)[z0]? = some (.int cs[z0]) := by rw [List.getElem?_map, List.getElem?_eq_getElem hl]; rfl
            refine ⟨.ref g, rfl, g, _, 3, _, rfl, rfl, SqL.of B0.at_g, at3, .ref g, rfl, g, _, 2, _, rfl, rfl, SqL.of B0.at_g, at2, c, _, _, _, rfl, rfl, SqL.of b4, atI_nat hc, ?_⟩
            exact rest1 _ _ ⟨_, rfl, rfl⟩
          · exact rest1 _ _ ⟨0, rfl, rfl⟩
      · exact rest _ _ ⟨⟨x0, y0, z0, _, _, _, _, _, rfl, B0⟩⟩
end
end K13
namespace K13
open PySem PySem.Spec PyProof.Rows L2 Pd
section
variable {P : Program} {wd : World} {K : PySem.W.Frag} {mg : Str → Option Value} {base : Heap}
/-! ### rows -/
def rowOf (ts a b : List Str) : List Int := ts.map fun t => ((a.countP (· == t) : Nat) : Int) - ((b.countP (· == t) : Nat) : Int)
def pRow : DSp := fun ds Q => ∃ ts a b, ds = [strsD ts, .tup [strsD a, strsD b]] ∧ ts.length ≤ 63 ∧ Q (rowD (rowOf ts a b))
theorem pRow_mo : MoP pRow := fun _ _ _ q ⟨ts, a, b, e, h, z⟩ => ⟨ts, a, b, e, h, q _ z⟩
theorem okp_row_of (T : Txt K mg) : Calld P wd K mg base 1 "row_of" ["things", "pair"] pRow := by
  refine defC T.dp_row_of scp_row_of ?_ pRow_mo ?_
  · rintro ds Q ⟨ts, a, b, rfl, _⟩
    rfl
  · rintro f cdv A outer s0 H E w ds Q hr hG ⟨ts, a, b, rfl, hl, q⟩
    refine ⟨_, (psd_cons (psd_asg (ped_var 1) (pg_tup rfl (pgs_cons (pg_name (i := 2) scp_row_of.nd rfl (Or.inr rfl)) (pgs_cons (pg_name (i := 3) scp_row_of.nd rfl (Or.inr rfl)) pgs_nil))) (gd_tup2 2 3) (gTup_mo (gCons_mo (gName_mo 2) (gCons_mo (gName_mo 3) gNil_mo))))
    (psd_one (psd_ret (ped_tupF T.m_tuple (pad_cons (ped_lc (own := [("name", 4)]) scp_row_of.nd (pid_tup (ped_var 0)) (blkOk_by (own := [("name", 4)]) (N := Np_row_of) (sc := defScope sp_row_of) (by decide +kernel)) (gd_name 4) (gName_mo 4) (by decide) (fun _ _ _ _ _ => (pg_name (i := 4) scp_row_of.nd rfl (Or.inl rfl))) (fun _ _ _ _ _ => ptsd_nil) (fun _ _ _ _ _ => (ped_sub (ped_count hr (ped_var 2) (ped_var 4)) (ped_count hr (ped_var 3) (ped_var 4)))) s0) pad_nil))))), ?_⟩
    refine ⟨_, rfl, _, _, rfl, _, rfl, _, rfl, ?_⟩
    refine lcD_ix _ ((rowOf ts a b).map .int) [] (by simp [rowOf]) (by simp only [List.length_map, List.length_nil]; omega) (fun k h1 h2 R hR => ?_) ⟨_, rfl, .inl ⟨_, rfl, q⟩⟩
    simp only [List.getElem_map, rowOf] at hR ⊢
    refine ⟨_, rfl, a.map .str, rfl, canP_strs _, dep_strs _, _, rfl, by rw [canP], _, rfl, b.map .str, rfl, canP_strs _, dep_strs _, _, rfl, by rw [canP], True.intro, ?_⟩
    rw [cnt_strs, cnt_strs]
    exact hR
theorem ok_row (T : Txt K mg) : Calld P wd K mg base 1 "_law_row" ["_law_things_here", "_law_pair_here"] pRow := by
  refine defC T.d_row sc_row ?_ pRow_mo ?_
  · rintro ds Q ⟨ts, a, b, rfl, _⟩
    rfl
  · rintro f cdv A outer s0 H E w ds Q hr hG ⟨ts, a, b, rfl, hl, q⟩
    refine ⟨_, (psd_one (psd_ret (ped_tupF T.m_tuple (pad_cons (ped_lc (own := [("_law_name", 2)]) sc_row.nd (pid_tup (ped_var 0)) (blkOk_by (own := [("_law_name", 2)]) (N := N_row) (sc := defScope s_row) (by decide +kernel)) (gd_name 2) (gName_mo 2) (by decide) (fun _ _ _ _ _ => (pg_name (i := 2) sc_row.nd rfl (Or.inl rfl))) (fun _ _ _ _ _ => ptsd_nil) (fun _ _ _ _ _ => (ped_sub (ped_count hr (ped_at (fun _ _ => rfl) (ped_var 1) ped_int) (ped_var 2)) (ped_count hr (ped_at (fun _ _ => rfl) (ped_var 1) ped_int) (ped_var 2)))) s0) pad_nil)))), ?_⟩
    refine ⟨_, rfl, _, rfl, ?_⟩
    refine lcD_ix _ ((rowOf ts a b).map .int) [] (by simp [rowOf]) (by simp only [List.length_map, List.length_nil]; omega) (fun k h1 h2 R hR => ?_) ⟨_, rfl, .inl ⟨_, rfl, q⟩⟩
    simp only [List.getElem_map, rowOf] at hR ⊢
    refine ⟨_, rfl, strsD a, rfl, a.map .str, rfl, canP_strs _, dep_strs _, _, rfl, by rw [canP], _, rfl, strsD b, rfl, b.map .str, rfl, canP_strs _, dep_strs _, _, rfl, by rw [canP], True.intro, ?_⟩
    rw [cnt_strs, cnt_strs]
    exact hR
def pTwo (f : Int → Int → Int) : DSp := fun ds Q => ∃ x y : List Int, ds = [rowD x, rowD y] ∧ x.length ≤ 63 ∧ y.length ≤ 63 ∧ Q (rowD (List.zipWith f x y))
theorem pTwo_mo {f : Int → Int → Int} : MoP (pTwo f) := fun _ _ _ q ⟨x, y, e, h, h', z⟩ => ⟨x, y, e, h, h', q _ z⟩
theorem okp_added (T : Txt K mg) : Calld P wd K mg base 1 "added" ["one", "other"] (pTwo (· + ·)) := by
  refine defC T.dp_added scp_added ?_ pTwo_mo ?_
  · rintro ds Q ⟨x, y, rfl, _⟩
    rfl
  · rintro f cdv A outer s0 H E w ds Q hr hG ⟨x, y, rfl, hx, hy, q⟩
    refine ⟨_, (psd_one (psd_ret (ped_tupF T.m_tuple (pad_cons (ped_lc (own := [("part", 2), ("further", 3)]) scp_added.nd (pid_zip T.m_zip (ped_var 0) (ped_var 1)) (blkOk_by (own := [("part", 2), ("further", 3)]) (N := Np_added) (sc := defScope sp_added) (by decide +kernel)) (gd_tup2 2 3) (gTup_mo (gCons_mo (gName_mo 2) (gCons_mo (gName_mo 3) gNil_mo))) (by decide) (fun _ _ _ _ _ => (pg_tup rfl (pgs_cons (pg_name (i := 2) scp_added.nd rfl (Or.inl rfl)) (pgs_cons (pg_name (i := 3) scp_added.nd rfl (Or.inl rfl)) pgs_nil)))) (fun _ _ _ _ _ => ptsd_nil) (fun _ _ _ _ _ => (ped_add (ped_var 2) (ped_var 3))) s0) pad_nil)))), ?_⟩
    refine ⟨_, rfl, _, rfl, .inr ⟨x.map .int, y.map .int, rfl, rfl, ?_⟩⟩
    refine lcD_ix _ ((List.zipWith (· + ·) x y).map .int) [] (by simp [zipD]) (by rw [zipD_len]; simp only [List.length_map, List.length_nil]; omega) (fun k h1 h2 R hR => ?_) ⟨_, rfl, .inl ⟨_, rfl, q⟩⟩
    simp only [List.getElem_map, List.getElem_zipWith, zipD] at hR ⊢
    exact ⟨_, _, rfl, _, rfl, _, rfl, hR⟩
theorem okp_taken (T : Txt K mg) : Calld P wd K mg base 1 "taken" ["one", "other"] (pTwo (· - ·)) := by
  refine defC T.dp_taken scp_taken ?_ pTwo_mo ?_
  · rintro ds Q ⟨x, y, rfl, _⟩
    rfl
  · rintro f cdv A outer s0 H E w ds Q hr hG ⟨x, y, rfl, hx, hy, q⟩
    refine ⟨_, (psd_one (psd_ret (ped_tupF T.m_tuple (pad_cons (ped_lc (own := [("part", 2), ("less", 3)]) scp_taken.nd (pid_zip T.m_zip (ped_var 0) (ped_var 1)) (blkOk_by (own := [("part", 2), ("less", 3)]) (N := Np_taken) (sc := defScope sp_taken) (by decide +kernel)) (gd_tup2 2 3) (gTup_mo (gCons_mo (gName_mo 2) (gCons_mo (gName_mo 3) gNil_mo))) (by decide) (fun _ _ _ _ _ => (pg_tup rfl (pgs_cons (pg_name (i := 2) scp_taken.nd rfl (Or.inl rfl)) (pgs_cons (pg_name (i := 3) scp_taken.nd rfl (Or.inl rfl)) pgs_nil)))) (fun _ _ _ _ _ => ptsd_nil) (fun _ _ _ _ _ => (ped_sub (ped_var 2) (ped_var 3))) s0) pad_nil)))), ?_⟩
    refine ⟨_, rfl, _, rfl, .inr ⟨x.map .int, y.map .int, rfl, rfl, ?_⟩⟩
    refine lcD_ix _ ((List.zipWith (· - ·) x y).map .int) [] (by simp [zipD]) (by rw [zipD_len]; simp only [List.length_map, List.length_nil]; omega) (fun k h1 h2 R hR => ?_) ⟨_, rfl, .inl ⟨_, rfl, q⟩⟩
    simp only [List.getElem_map, List.getElem_zipWith, zipD] at hR ⊢
    exact ⟨_, _, rfl, _, rfl, _, rfl, True.intro, hR⟩
def pTimes : DSp := fun ds Q => ∃ (x : List Int) (n : Int), ds = [rowD x, .int n] ∧ x.length ≤ 63 ∧ -1000000 ≤ n ∧ n ≤ 1000000 ∧ Q (rowD (x.map (· * n)))
theorem pTimes_mo : MoP pTimes := fun _ _ _ q ⟨x, y, e, h, h1, h2, z⟩ => ⟨x, y, e, h, h1, h2, q _ z⟩
theorem okp_times (T : Txt K mg) : Calld P wd K mg base 1 "times" ["row", "number"] pTimes := by
  refine defC T.dp_times scp_times ?_ pTimes_mo ?_
  · rintro ds Q ⟨x, n, rfl, _⟩
    rfl
  · rintro f cdv A outer s0 H E w ds Q hr hG ⟨x, n, rfl, hx, hn1, hn2, q⟩
    refine ⟨_, (psd_one (psd_ret (ped_tupF T.m_tuple (pad_cons (ped_lc (own := [("part", 2)]) scp_times.nd (pid_tup (ped_var 0)) (blkOk_by (own := [("part", 2)]) (N := Np_times) (sc := defScope sp_times) (by decide +kernel)) (gd_name 2) (gName_mo 2) (by decide) (fun _ _ _ _ _ => (pg_name (i := 2) scp_times.nd rfl (Or.inl rfl))) (fun _ _ _ _ _ => ptsd_nil) (fun _ _ _ _ _ => (ped_mul (ped_var 2) (ped_var 1))) s0) pad_nil)))), ?_⟩
    refine ⟨_, rfl, _, rfl, ?_⟩
    refine lcD_ix _ ((x.map (· * n)).map .int) [] (by simp) (by simp only [List.length_map, List.length_nil]; omega) (fun k h1 h2 R hR => ?_) ⟨_, rfl, .inl ⟨_, rfl, q⟩⟩
    simp only [List.getElem_map] at hR ⊢
    exact ⟨_, rfl, _, rfl, cmul_small ⟨hn1, hn2⟩, hR⟩
def pDot : DSp := fun ds Q => ∃ x y : List Int, ds = [rowD x, rowD y] ∧ x.length = y.length ∧ x.length ≤ 63 ∧ Upto (2 ^ 399) x ∧ Upto (2 ^ 399) y ∧ Q (.int (List.zipWith (· * ·) x y).sum)
theorem pDot_mo : MoP pDot := fun _ _ _ q ⟨x, y, e, h, h', h1, h2, z⟩ => ⟨x, y, e, h, h', h1, h2, q _ z⟩
theorem upto_mul {x y : List Int} (h1 : Upto (2 ^ 399) x) (h2 : Upto (2 ^ 399) y) {k : Nat} (hx : k < x.length) (hy : k < y.length) : CMulA x[k] y[k] := by
  have a := h1.at hx
  have b := h2.at hy
  exact cmul_wide (by omega) (by omega)
theorem okp_dot (T : Txt K mg) : Calld P wd K mg base 1 "dot" ["one", "other"] pDot := by
  refine defC T.dp_dot scp_dot ?_ pDot_mo ?_
  · rintro ds Q ⟨x, y, rfl, _⟩
    rfl
  · rintro f cdv A outer s0 H E w ds Q hr hG ⟨x, y, rfl, he, hx, u1, u2, q⟩
    refine ⟨_, (psd_one (psd_ret (ped_sumB T.m_sum (pad_cons (ped_lc (own := [("part", 2), ("further", 3)]) scp_dot.nd (pid_zip T.m_zip (ped_var 0) (ped_var 1)) (blkOk_by (own := [("part", 2), ("further", 3)]) (N := Np_dot) (sc := defScope sp_dot) (by decide +kernel)) (gd_tup2 2 3) (gTup_mo (gCons_mo (gName_mo 2) (gCons_mo (gName_mo 3) gNil_mo))) (by decide) (fun _ _ _ _ _ => (pg_tup rfl (pgs_cons (pg_name (i := 2) scp_dot.nd rfl (Or.inl rfl)) (pgs_cons (pg_name (i := 3) scp_dot.nd rfl (Or.inl rfl)) pgs_nil)))) (fun _ _ _ _ _ => ptsd_nil) (fun _ _ _ _ _ => (ped_mul (ped_var 2) (ped_var 3))) s0) pad_nil)))), ?_⟩
    refine ⟨_, rfl, _, rfl, .inr ⟨x.map .int, y.map .int, rfl, rfl, ?_⟩⟩
    refine lcD_ix _ ((List.zipWith (· * ·) x y).map .int) [] (by simp [zipD]) (by rw [zipD_len]; simp only [List.length_map, List.length_nil]; omega) (fun k h1 h2 R hR => ?_) ⟨_, _, rfl, rfl, q⟩
    rw [List.length_map, List.length_zipWith] at h2
    simp only [List.getElem_map, List.getElem_zipWith, zipD] at hR ⊢
    exact ⟨_, _, rfl, _, rfl, _, rfl, upto_mul u1 u2 (by omega) (by omega), hR⟩
theorem ok_dot (T : Txt K mg) : Calld P wd K mg base 1 "_law_dot" ["_law_one_here", "_law_other"] pDot := by
  refine defC T.d_dot sc_dot ?_ pDot_mo ?_
  · rintro ds Q ⟨x, y, rfl, _⟩
    rfl
  · rintro f cdv A outer s0 H E w ds Q hr hG ⟨x, y, rfl, he, hx, u1, u2, q⟩
    refine ⟨_, (psd_one (psd_ret (ped_sumB T.m_sum (pad_cons (ped_lc (own := [("_law_at", 2)]) sc_dot.nd (pid_range T.m_range (ped_len T.m_len (pad_cons (ped_var 0) pad_nil))) (blkOk_by (own := [("_law_at", 2)]) (N := N_dot) (sc := defScope s_dot) (by decide +kernel)) (gd_name 2) (gName_mo 2) (by decide) (fun _ _ _ _ _ => (pg_name (i := 2) sc_dot.nd rfl (Or.inl rfl))) (fun _ _ _ _ _ => ptsd_nil) (fun _ _ _ _ _ => (ped_mul (ped_at (fun _ _ => rfl) (ped_var 0) (ped_var 2)) (ped_at (fun _ _ => rfl) (ped_var 1) (ped_var 2)))) s0) pad_nil)))), ?_⟩
    refine ⟨_, rfl, _, rfl, .inl ⟨_, rfl, _, rfl, by omega, by rw [List.length_map]; omega, ?_⟩⟩
    refine lcD_ix _ ((List.zipWith (· * ·) x y).map .int) [] (by rw [rngD_len]; simp; omega) (by rw [rngD_len]; simp; omega) (fun k h1 h2 R hR => ?_) ⟨_, _, rfl, rfl, q⟩
    rw [List.length_map, List.length_zipWith] at h2
    rw [rngD_get]
    simp only [List.getElem_map, List.getElem_zipWith] at hR
    exact ⟨_, rfl, _, rfl, _, at_int (by omega), _, rfl, _, rfl, _, at_int (by omega), upto_mul u1 u2 (by omega) (by omega), hR⟩
def pBal : DSp := fun ds Q => ∃ x : List Int, ds = [rowD x] ∧ Q (.bl (x.sum == 0))
theorem pBal_mo : MoP pBal := fun _ _ _ q ⟨x, e, z⟩ => ⟨x, e, q _ z⟩
theorem okp_is_balanced (T : Txt K mg) : Calld P wd K mg base 1 "is_balanced" ["row"] pBal := by
  refine defC T.dp_is_balanced scp_is_balanced ?_ pBal_mo ?_
  · rintro ds Q ⟨x, rfl, _⟩
    rfl
  · rintro f cdv A outer s0 H E w ds Q hr hG ⟨x, rfl, q⟩
    refine ⟨_, (psd_one (psd_ret (ped_eq hr (ped_sumB T.m_sum (pad_cons (ped_var 0) pad_nil)) ped_int))), ?_⟩
    refine ⟨_, rfl, _, _, rfl, rfl, shp_int _, shp_int _, ?_⟩
    rw [eqd_int]
    exact q
def pAlike : DSp := fun ds Q => ∃ (x : Da) (n c : Nat), ds = [x, x] ∧ Sz x n c ∧ n ≤ 60 ∧ c ≤ 16777216 ∧ Q (.bl true)
theorem pAlike_mo : MoP pAlike := fun _ _ _ q ⟨x, n, c, e, a, b, d, z⟩ => ⟨x, n, c, e, a, b, d, q _ z⟩
theorem sz_shown {x : Da} {n c : Nat} (h : Sz x n c) (hn : n ≤ 60) (hc : c ≤ 16777216) : shwOk x := h.ok hn hc
theorem ok_alike (T : Txt K mg) : Calld P wd K mg base 1 "_law_alike" ["_law_found", "_law_due"] pAlike := by
  refine defC T.d_alike sc_alike ?_ pAlike_mo ?_
  · rintro ds Q ⟨x, n, c, rfl, _⟩
    rfl
  · rintro f cdv A outer s0 H E w ds Q hr hG ⟨x, n, c, rfl, z, hn, hc, q⟩
    refine ⟨_, (psd_one (psd_ret (ped_and (ped_eq hr (ped_var 0) (ped_var 1)) (ped_one (ped_eqS (ped_repr hr hG T.m_repr (pad_cons (ped_var 0) pad_nil)) (ped_repr hr hG T.m_repr (pad_cons (ped_var 1) pad_nil))))))), ?_⟩
    refine ⟨_, rfl, _, rfl, z.shp hn, z.shp hn, _, rfl, ?_⟩
    rw [eqd_refl z]
    refine (if_pos rfl).mpr ?_
    refine ⟨_, rfl, _, rfl, z.ok hn hc, _, rfl, _, rfl, z.ok hn hc, _, _, rfl, rfl, ?_⟩
    rw [beq_self_eq_true]
    exact q
end
end K13
namespace K13
open PySem PySem.Spec PyProof.Rows L2 Pd
section
variable {P : Program} {wd : World} {K : PySem.W.Frag} {mg : Str → Option Value} {base : Heap}
/-! ### mixtures -/
def mixI (rows : List (List Int)) (ns : List Int) (m : Nat) : List Int := (rows.zip ns).foldl (fun acc p => List.zipWith (· + ·) acc (p.1.map (· * p.2))) (List.replicate m 0)
theorem mixI_succ {rows : List (List Int)} {ns : List Int} {m i : Nat} {row : List Int} {n : Int} (h1 : rows[i]? = some row) (h2 : ns[i]? = some n) :
    mixI (rows.take (i + 1)) (ns.take (i + 1)) m = List.zipWith (· + ·) (mixI (rows.take i) (ns.take i) m) (row.map (· * n)) := by
  unfold mixI
  have e : (rows.take (i + 1)).zip (ns.take (i + 1)) = (rows.take i).zip (ns.take i) ++ [(row, n)] := by
    have t : ∀ k, (rows.take k).zip (ns.take k) = (rows.zip ns).take k := fun k => by
      unfold List.zip
      rw [List.take_zipWith]
    rw [t, t, List.take_add_one]
    have : (rows.zip ns)[i]? = some (row, n) := List.getElem?_zip_eq_some.mpr ⟨h1, h2⟩
    rw [this]
    rfl
  rw [e, List.foldl_append]
  rfl
theorem mixI_len {m : Nat} : ∀ (ps : List (List Int × Int)) (acc : List Int), acc.length = m → (∀ p ∈ ps, p.1.length = m) → (ps.foldl (fun acc p => List.zipWith (· + ·) acc (p.1.map (· * p.2))) acc).length = m
  | [], acc, h, _ => h
  | p :: ps, acc, h, hp => mixI_len ps _ (by rw [List.length_zipWith, List.length_map, h, hp p List.mem_cons_self, Nat.min_self]) fun q hq => hp q (List.mem_cons_of_mem _ hq)
theorem mixI_length {rows : List (List Int)} {ns : List Int} {m : Nat} (h : ∀ row ∈ rows, row.length = m) : (mixI rows ns m).length = m :=
  mixI_len _ _ (List.length_replicate ..) fun p hp => h _ (List.of_mem_zip hp).1
def pMix : DSp := fun ds Q => ∃ (rows : List (List Int)) (ns : List Int) (m : Nat), ds = [.lst (rows.map rowD), .lst (ns.map .int), .int (m : Nat)] ∧ rows.length = ns.length ∧ rows.length ≤ 63 ∧ m ≤ 63 ∧ (∀ row ∈ rows, row.length = m) ∧ Upto 1000000 ns ∧ Q (rowD (mixI rows ns m))
theorem pMix_mo : MoP pMix := fun _ _ _ q ⟨rows, ns, m, e, a, b, c, d, f, z⟩ => ⟨rows, ns, m, e, a, b, c, d, f, q _ z⟩
theorem zeros (m : Nat) : (List.replicate m [Da.int 0]).flatten = (mixI [] [] m).map .int := by
  show _ = (List.replicate m (0 : Int)).map Da.int
  rw [List.map_replicate]
  induction m with
  | zero => rfl
  | succ m ih => rw [List.replicate_succ, List.replicate_succ, List.flatten_cons, ih]; rfl
theorem okp_mixture (T : Txt K mg) : Calld P wd K mg base 2 "mixture" ["rows", "numbers", "many"] pMix := by
  refine defC T.dp_mixture scp_mixture ?_ pMix_mo ?_
  · rintro ds Q ⟨rows, ns, m, rfl, _⟩
    rfl
  · rintro f cdv A outer s0 H E w ds Q hr hG ⟨rows, ns, m, rfl, he, hl, hm, hw, hu, q⟩
    refine ⟨_, (psd_cons (psd_set (i := 3) (ped_repT (ped_tup (pad_cons ped_int pad_nil)) (ped_var 2)) scp_mixture.nd)
    (psd_cons (psd_for (pid_zip T.m_zip (ped_var 0) (ped_var 1)) (pg_tup rfl (pgs_cons (pg_name (i := 4) scp_mixture.nd rfl (Or.inl rfl)) (pgs_cons (pg_name (i := 5) scp_mixture.nd rfl (Or.inl rfl)) pgs_nil))) (gd_tup2 4 5) (gTup_mo (gCons_mo (gName_mo 4) (gCons_mo (gName_mo 5) gNil_mo)))
    (psd_one (psd_set (i := 3) (ped_f ((okp_added T).up (by decide)) hr hG (pad_cons (ped_var 3) (pad_cons (ped_f ((okp_times T).up (by decide)) hr hG (pad_cons (ped_var 4) (pad_cons (ped_var 5) pad_nil))) pad_nil))) scp_mixture.nd)))
    (psd_one (psd_ret (ped_var 3))))), ?_⟩
    refine ⟨by decide, _, rfl, _, _, rfl, rfl, by simp, by omega, by omega, by decide, ?_⟩
    rw [Int.toNat_natCast, zeros]
    refine ⟨_, rfl, _, rfl, .inl ⟨rows.map rowD, ns.map .int, rfl, rfl, ?_⟩⟩
    refine forD_run (fun i r => ∃ s4 s5, r = [.dat (.lst (rows.map rowD)), .dat (.lst (ns.map .int)), .dat (.int (m : Nat)), .dat (rowD (mixI (rows.take i) (ns.take i) m)), s4, s5]) ⟨_, _, rfl⟩ ?_ ?_
    · rintro r ⟨s4, s5, rfl⟩
      refine ⟨_, rfl, ?_⟩
      rw [zipD_len, List.length_map, List.length_map, ← he, Nat.min_self, List.take_of_length_le (Nat.le_refl _), List.take_of_length_le (by omega)]
      exact q
    · rintro i d r nx hd ⟨s4, s5, rfl⟩ k
      have hi : i < rows.length := by
        have := (List.getElem?_eq_some_iff.mp hd).1
        rw [zipD_len, List.length_map] at this
        omega
      have h1 : rows[i]? = some rows[i] := List.getElem?_eq_getElem hi
      have h2 : ns[i]? = some ns[i] := List.getElem?_eq_getElem (by omega)
      have e : d = .tpw [rowD rows[i], .int ns[i]] := by
        have z := zipD_at (xs := rows.map rowD) (ys := ns.map .int) (i := i) (x := rowD rows[i]) (y := .int ns[i]) (by rw [List.getElem?_map, h1]; rfl) (by rw [List.getElem?_map, h2]; rfl)
        rw [z] at hd
        exact (Option.some.inj hd).symm
      subst e
      have l1 : (rows[i]).length = m := hw _ (List.getElem_mem hi)
      have l2 : (mixI (rows.take i) (ns.take i) m).length = m := mixI_length fun row hr => hw row (List.mem_of_mem_take hr)
      have b := hu.at (k := i) (by omega)
      refine ⟨_, _, rfl, _, rfl, _, rfl, _, rfl, rows[i], ns[i], rfl, by omega, b.1, b.2, _, _, rfl, by omega, by rw [List.length_map]; omega, ?_⟩
      have z := k _ ⟨.dat (rowD rows[i]), .dat (.int ns[i]), rfl⟩
      rw [mixI_succ h1 h2] at z
      exact z
theorem ok_mixture (T : Txt K mg) : Calld P wd K mg base 1 "_law_mixture" ["_law_rows", "_law_numbers", "_law_many"] pMix := by
  refine defC T.d_mixture sc_mixture ?_ pMix_mo ?_
  · rintro ds Q ⟨rows, ns, m, rfl, _⟩
    rfl
  · rintro f cdv A outer s0 H E w ds Q hr hG ⟨rows, ns, m, rfl, he, hl, hm, hw, hu, q⟩
    refine ⟨_, (psd_cons (psd_set (i := 3) (ped_rep (ped_lst (pad_cons ped_int pad_nil)) (ped_var 2)) sc_mixture.nd)
    (psd_cons (psd_for (pid_range T.m_range (ped_len T.m_len (pad_cons (ped_var 0) pad_nil))) (pg_name (i := 4) sc_mixture.nd rfl (Or.inr rfl)) (gd_name 4) (gName_mo 4)
    (psd_one (psd_set (i := 3) (ped_lc (own := [("_law_at", 5)]) sc_mixture.nd (pid_range T.m_range (ped_var 2)) (blkOk_by (own := [("_law_at", 5)]) (N := N_mixture) (sc := defScope s_mixture) (by decide +kernel)) (gd_name 5) (gName_mo 5) (by decide) (fun _ _ _ _ _ => (pg_name (i := 5) sc_mixture.nd rfl (Or.inl rfl))) (fun _ _ _ _ _ => ptsd_nil) (fun _ _ _ _ _ => (ped_add (ped_at (fun _ _ => rfl) (ped_var 3) (ped_var 5)) (ped_mul (ped_at (fun _ _ => rfl) (ped_var 1) (ped_var 4)) (ped_at (fun _ _ => rfl) (ped_at (fun _ _ => rfl) (ped_var 0) (ped_var 4)) (ped_var 5))))) s0) sc_mixture.nd)))
    (psd_one (psd_ret (ped_tupF T.m_tuple (pad_cons (ped_var 3) pad_nil)))))), ?_⟩
    refine ⟨by decide, _, rfl, by omega, by omega, by rw [sizeLine_eq, Int.toNat_natCast]; simp; omega, ?_⟩
    rw [Int.toNat_natCast, zeros]
    refine ⟨_, rfl, _, rfl, .inl ⟨_, rfl, _, rfl, by omega, by rw [List.length_map]; omega, ?_⟩⟩
    rw [Int.toNat_natCast, List.length_map]
    refine forD_run (fun i r => ∃ s4 s5, r = [.dat (.lst (rows.map rowD)), .dat (.lst (ns.map .int)), .dat (.int (m : Nat)), .dat (.lst ((mixI (rows.take i) (ns.take i) m).map .int)), s4, s5]) ⟨_, _, rfl⟩ ?_ ?_
    · rintro r ⟨s4, s5, rfl⟩
      rw [rngD_len, List.take_of_length_le (Nat.le_refl _), List.take_of_length_le (by omega)]
      exact ⟨_, rfl, _, rfl, .inl ⟨_, rfl, q⟩⟩
    · rintro i d r nx hd ⟨s4, s5, rfl⟩ k
      have hi : i < rows.length := by
        have := (List.getElem?_eq_some_iff.mp hd).1
        rwa [rngD_len] at this
      rw [rngD_at hi] at hd
      cases hd
      have h1 : rows[i]? = some rows[i] := List.getElem?_eq_getElem hi
      have h2 : ns[i]? = some ns[i] := List.getElem?_eq_getElem (by omega)
      have l1 : (rows[i]).length = m := hw _ (List.getElem_mem hi)
      have l2 : (mixI (rows.take i) (ns.take i) m).length = m := mixI_length fun row hr => hw row (List.mem_of_mem_take hr)
      have b := hu.at (k := i) (by omega)
      refine ⟨_, rfl, _, rfl, by omega, by omega, ?_⟩
      rw [Int.toNat_natCast]
      refine lcD_ix _ ((mixI (rows.take (i + 1)) (ns.take (i + 1)) m).map .int) [] ?_ (by rw [rngD_len]; simp; omega) (fun j h1' h2' R hR => ?_) (k _ ⟨_, _, rfl⟩)
      · rw [List.length_map, rngD_len]
        exact mixI_length fun row hr => hw row (List.mem_of_mem_take hr)
      · rw [rngD_len] at h1'
        rw [rngD_get]
        have e : ((mixI (rows.take (i + 1)) (ns.take (i + 1)) m).map Da.int)[j] = .int ((mixI (rows.take i) (ns.take i) m)[j] + ns[i] * (rows[i])[j]) := by
          rw [List.getElem_map]
          congr 1
          simp only [mixI_succ h1 h2]
          rw [List.getElem_zipWith, List.getElem_map, Int.mul_comm]
        rw [e] at hR
        exact ⟨_, rfl, _, rfl, _, at_int (by omega), _, rfl, _, rfl, _, at_int (by omega), _, rfl, _, rfl, rowD rows[i], by
          have z := at_da (is := rows.map rowD) (k := i) (by rw [List.length_map]; exact hi)
          rw [List.getElem_map] at z
          exact z, _, rfl, _, at_int (by omega), cmul_small' b, hR⟩
end
end K13
namespace K13
open PySem PySem.Spec PyProof.Rows L2 Pd
section
variable {P : Program} {wd : World} {K : PySem.W.Frag} {mg : Str → Option Value} {base : Heap}
/-! ### what is drawn -/
theorem log_small {n : Int} (h : 0 < n) (h2 : n ≤ 1000000000000) : n.natAbs.log2 < 9000 := Nat.lt_trans (log2_of (k := 40) (by omega) (by decide)) (by decide)
/-- texts of plain letters -/
def Asc (ts : List Str) : Prop := ∀ t ∈ ts, ∀ c ∈ t.cps.toList, c < 128
theorem Asc.shp {ts : List Str} (h : Asc ts) : shp (strsD ts) = true := by
  have z : ∀ ts : List Str, Asc ts → PyData.canLayAll0 (toPs (ts.map .str)) = true := by
    intro ts
    induction ts with
    | nil => intro _; rw [List.map_nil, toPs, PyData.canLayAll0]
    | cons x xs ih =>
      intro h
      have hx := (sz_str (h x List.mem_cons_self)).lay
      rw [List.map_cons, toPs, PyData.canLayAll0, hx, ih fun t ht => h t (List.mem_cons_of_mem _ ht)]
      rfl
  have d := dep_strs ts
  unfold Pd.shp SeqAt.shaped
  rw [canP, canP_strs, toP, PyData.canLay0, z ts h, PyData.depth, decide_eq_true (show _ ≤ _ from by omega)]
  rfl
theorem atD {xs : List Da} {r : Int} (h1 : 0 ≤ r) (h2 : r.toNat < xs.length) : L2.atI xs r = some xs[r.toNat] := by
  have e : r = ((r.toNat : Nat) : Int) := by omega
  have z := at_da h2
  rw [← e] at z
  exact z
def pOne : DSp := fun ds Q => ∃ ts : List Str, ds = [.bag, strsD ts] ∧ ts ≠ [] ∧ ts.length ≤ 63 ∧ ∀ t ∈ ts, Q (.str t)
theorem pOne_mo : MoP pOne := fun _ _ _ q ⟨ts, e, a, b, z⟩ => ⟨ts, e, a, b, fun t h => q _ (z t h)⟩
theorem ok_one (T : Txt K mg) : Calld P wd K mg base 2 "_law_one" ["_law_bag_here", "_law_things_here"] pOne := by
  refine defC T.d_one sc_one ?_ pOne_mo ?_
  · rintro ds Q ⟨ts, rfl, _⟩
    rfl
  · rintro f cdv A outer s0 H E w ds Q hr hG ⟨ts, rfl, ne, hl, q⟩
    refine ⟨_, (psd_one (psd_ret (ped_at (fun _ _ => rfl) (ped_var 1) (ped_f ((ok_take T).up (by decide)) hr hG (pad_cons (ped_var 0) (pad_cons (ped_len T.m_len (pad_cons (ped_var 1) pad_nil)) pad_nil)))))), ?_⟩
    have hp : 0 < ts.length := List.length_pos_iff.mpr ne
    refine ⟨_, rfl, _, rfl, _, rfl, _, rfl, .inl ⟨_, rfl, _, rfl, by rw [List.length_map]; omega, log_small (by rw [List.length_map]; omega) (by rw [List.length_map]; omega), fun r h1 h2 => ?_⟩⟩
    rw [List.length_map] at h2
    have h3 : r.toNat < ts.length := by omega
    have z := atD (xs := ts.map .str) h1 (by rw [List.length_map]; exact h3)
    rw [List.getElem_map] at z
    exact ⟨_, z, q _ (List.getElem_mem _)⟩
theorem all_strs {F : Str → Prop} : ∀ {ys : List Da}, (∀ y ∈ ys, ∃ t, y = .str t ∧ F t) → ∃ b : List Str, ys = b.map .str ∧ ∀ t ∈ b, F t
  | [], _ => ⟨[], rfl, fun _ h => by cases h⟩
  | y :: ys, h => by
    obtain ⟨b, rfl, hb⟩ := all_strs (ys := ys) fun z hz => h z (List.mem_cons_of_mem _ hz)
    obtain ⟨t, rfl, ht⟩ := h y List.mem_cons_self
    refine ⟨t :: b, rfl, fun s hs => ?_⟩
    rcases List.mem_cons.mp hs with e | e
    · rw [e]; exact ht
    · exact hb s e
theorem all_ints {F : Int → Prop} : ∀ {ys : List Da}, (∀ y ∈ ys, ∃ t, y = .int t ∧ F t) → ∃ b : List Int, ys = b.map .int ∧ ∀ t ∈ b, F t
  | [], _ => ⟨[], rfl, fun _ h => by cases h⟩
  | y :: ys, h => by
    obtain ⟨b, rfl, hb⟩ := all_ints (ys := ys) fun z hz => h z (List.mem_cons_of_mem _ hz)
    obtain ⟨t, rfl, ht⟩ := h y List.mem_cons_self
    refine ⟨t :: b, rfl, fun s hs => ?_⟩
    rcases List.mem_cons.mp hs with e | e
    · rw [e]; exact ht
    · exact hb s e
/-- some of the texts -/
def pSum : DSp := fun ds Q => ∃ (ts : List Str) (m : Int), ds = [.bag, strsD ts, .int m] ∧ Asc ts ∧ ts.length ≤ 63 ∧ 0 ≤ m ∧ m ≤ 8 ∧ ∀ a : List Str, (∀ t ∈ a, t ∈ ts) → a.length ≤ 8 → Q (strsD a)
theorem pSum_mo : MoP pSum := fun _ _ _ q ⟨ts, m, e, a, b, c, d, z⟩ => ⟨ts, m, e, a, b, c, d, fun t h h' => q _ (z t h h')⟩
theorem ok_sum (T : Txt K mg) : Calld P wd K mg base 3 "_law_sum" ["_law_bag_here", "_law_things_here", "_law_many"] pSum := by
  refine defC T.d_sum sc_sum ?_ pSum_mo ?_
  · rintro ds Q ⟨ts, m, rfl, _⟩
    rfl
  · rintro f cdv A outer s0 H E w ds Q hr hG ⟨ts, m, rfl, ha, hl, m0, m1, q⟩
    refine ⟨_, (psd_cons (psd_if (ptd_eq hr (ped_var 1) (ped_tup pad_nil)) (psd_one (psd_ret (ped_tup pad_nil))) psd_nil)
    (psd_one (psd_ret (ped_tupF T.m_tuple (pad_cons (ped_sorted hr T.m_sorted (pad_cons (ped_lc (own := [("_law_k", 3)]) sc_sum.nd (pid_range T.m_range (ped_var 2)) (blkOk_by (own := [("_law_k", 3)]) (N := N_sum) (sc := defScope s_sum) (by decide +kernel)) (gd_name 3) (gName_mo 3) (by decide) (fun _ _ _ _ _ => (pg_name (i := 3) sc_sum.nd rfl (Or.inl rfl))) (fun _ _ _ _ _ => ptsd_nil) (fun _ _ _ _ _ => (ped_f ((ok_one T).up (by decide)) hr hG (pad_cons (ped_var 0) (pad_cons (ped_var 1) pad_nil)))) s0) pad_nil)) pad_nil))))), ?_⟩
    refine ⟨_, rfl, by decide, ha.shp, shp_unit, _, rfl, ?_⟩
    rw [eqd_tupNil]
    cases ts with
    | nil => exact (if_pos rfl).mpr ⟨by decide, q [] (fun _ h => by cases h) (by decide)⟩
    | cons t0 tr =>
      refine (if_neg Bool.false_ne_true).mpr ?_
      refine ⟨_, rfl, m, rfl, by omega, by omega, ?_⟩
      refine lcD_all (fun d y => ∃ t, y = .str t ∧ t ∈ t0 :: tr) _ [] (by rw [rngD_len]; simp; omega) (fun d hd R hR => ?_) fun ys hy => ?_
      · exact ⟨_, rfl, _, rfl, t0 :: tr, rfl, by simp, hl, fun t ht => hR _ ⟨t, rfl, ht⟩⟩
      · have lb := paired_len hy
        rw [rngD_len] at lb
        obtain ⟨b, rfl, hb⟩ := all_strs (F := fun t => t ∈ t0 :: tr) fun y hy' => by
          obtain ⟨x, _, z⟩ := paired_mem hy hy'
          exact z
        rw [List.length_map] at lb
        obtain ⟨c, e, p⟩ := srt_strs (a := b)
        refine ⟨_, _, rfl, rfl, srtOk_strs (by omega), _, rfl, .inl ⟨_, rfl, ?_⟩⟩
        rw [List.nil_append, e]
        exact q c (fun t ht => hb t (p.mem_iff.mp ht)) (by rw [p.length_eq]; omega)
/-- two of these -/
def pPair : DSp := fun ds Q => ∃ ts : List Str, ds = [.bag, strsD ts] ∧ Asc ts ∧ ts.length ≤ 63 ∧ ∀ a b : List Str, (∀ t ∈ a, t ∈ ts) → (∀ t ∈ b, t ∈ ts) → a.length ≤ 8 → b.length ≤ 8 → Q (.tup [strsD a, strsD b])
theorem pPair_mo : MoP pPair := fun _ _ _ q ⟨ts, e, a, b, z⟩ => ⟨ts, e, a, b, fun t t' h1 h2 h3 h4 => q _ (z t t' h1 h2 h3 h4)⟩
theorem ok_pair (T : Txt K mg) : Calld P wd K mg base 4 "_law_pair" ["_law_bag_here", "_law_things_here"] pPair := by
  refine defC T.d_pair sc_pair ?_ pPair_mo ?_
  · rintro ds Q ⟨ts, rfl, _⟩
    rfl
  · rintro f cdv A outer s0 H E w ds Q hr hG ⟨ts, rfl, ha, hl, q⟩
    refine ⟨_, (psd_cons (psd_par (i := 2) (j := 3) (ped_at (fun _ _ => rfl) (ped_lst (pad_cons ped_int (pad_cons ped_int (pad_cons ped_int (pad_cons ped_int pad_nil))))) (ped_f ((ok_take T).up (by decide)) hr hG (pad_cons (ped_var 0) (pad_cons ped_int pad_nil)))) (ped_f ((ok_take T).up (by decide)) hr hG (pad_cons (ped_var 0) (pad_cons ped_int pad_nil))) sc_pair.nd)
    (psd_cons (psd_set (i := 4) (ped_f ((ok_sum T).up (by decide)) hr hG (pad_cons (ped_var 0) (pad_cons (ped_var 1) (pad_cons (ped_var 2) pad_nil)))) sc_pair.nd)
    (psd_cons (psd_if (ptd_eq hr (ped_var 3) ped_int) (psd_one (psd_ret (ped_tup (pad_cons (ped_var 4) (pad_cons (ped_f ((ok_sum T).up (by decide)) hr hG (pad_cons (ped_var 0) (pad_cons (ped_var 1) (pad_cons (ped_f ((ok_take T).up (by decide)) hr hG (pad_cons (ped_var 0) (pad_cons ped_int pad_nil))) pad_nil)))) pad_nil))))) psd_nil)
    (psd_cons (psd_if (ptd_eq hr (ped_var 3) ped_int) (psd_one (psd_ret (ped_tup (pad_cons (ped_f ((ok_sum T).up (by decide)) hr hG (pad_cons (ped_var 0) (pad_cons (ped_var 1) (pad_cons (ped_f ((ok_take T).up (by decide)) hr hG (pad_cons (ped_var 0) (pad_cons ped_int pad_nil))) pad_nil)))) (pad_cons (ped_var 4) pad_nil))))) psd_nil)
    (psd_one (psd_ret (ped_tup (pad_cons (ped_var 4) (pad_cons (ped_ifExp (ptd_eq hr (ped_var 3) ped_int) (ped_var 4) (ped_f ((ok_sum T).up (by decide)) hr hG (pad_cons (ped_var 0) (pad_cons (ped_var 1) (pad_cons (ped_var 2) pad_nil))))) pad_nil))))))))), ?_⟩
    refine ⟨by decide, _, rfl, _, rfl, by decide, by decide, fun r1 a1 a2 => ?_⟩
    obtain ⟨m, hm, m0, m1⟩ : ∃ m : Int, L2.atI [Da.int 2, .int 1, .int 2, .int 3] r1 = some (.int m) ∧ 0 ≤ m ∧ m ≤ 8 := by
      have : r1 = 0 ∨ r1 = 1 ∨ r1 = 2 ∨ r1 = 3 := by omega
      rcases this with h | h | h | h
      · subst h; exact ⟨2, rfl, by decide, by decide⟩
      · subst h; exact ⟨1, rfl, by decide, by decide⟩
      · subst h; exact ⟨2, rfl, by decide, by decide⟩
      · subst h; exact ⟨3, rfl, by decide, by decide⟩
    refine ⟨_, hm, _, rfl, _, rfl, by decide, by decide, fun r2 b1 b2 => ?_⟩
    refine ⟨_, rfl, _, rfl, _, rfl, ts, m, rfl, ha, hl, m0, m1, fun a ha1 ha2 => ?_⟩
    refine ⟨_, rfl, shp_int _, shp_int _, _, rfl, ite2 (fun h => ?_) (fun h => ?_)⟩
    · refine ⟨_, rfl, _, rfl, _, rfl, _, rfl, _, rfl, by decide, by decide, fun r3 c1 c2 => ?_⟩
      exact ⟨ts, r3, rfl, ha, hl, c1, by omega, fun b hb1 hb2 => ⟨show 2 ≤ sizeLine by decide, q a b ha1 hb1 ha2 hb2⟩⟩
    · refine ⟨_, rfl, shp_int _, shp_int _, _, rfl, ite2 (fun h => ?_) (fun h => ?_)⟩
      · refine ⟨_, rfl, _, rfl, _, rfl, _, rfl, by decide, by decide, fun r3 c1 c2 => ?_⟩
        exact ⟨ts, r3, rfl, ha, hl, c1, by omega, fun b hb1 hb2 => ⟨_, rfl, show 2 ≤ sizeLine by decide, q b a hb1 ha1 hb2 ha2⟩⟩
      · refine ⟨_, rfl, _, rfl, shp_int _, shp_int _, _, rfl, ite2 (fun h => ?_) (fun h => ?_)⟩
        · exact ⟨_, rfl, show 2 ≤ sizeLine by decide, q a a ha1 ha1 ha2 ha2⟩
        · exact ⟨_, rfl, _, rfl, _, rfl, ts, m, rfl, ha, hl, m0, m1, fun b hb1 hb2 => ⟨show 2 ≤ sizeLine by decide, q a b ha1 hb1 ha2 hb2⟩⟩
/-- a worth for each thing -/
def pWorths : DSp := fun ds Q => ∃ (ts : List Str) (lo hi : Int), ds = [.bag, strsD ts, .int lo, .int hi] ∧ ts.Nodup ∧ ts.length ≤ 63 ∧ lo ≤ hi ∧ hi - lo ≤ 1000000 ∧ ∀ w : Str → Int, (∀ t ∈ ts, lo ≤ w t ∧ w t ≤ hi) → Q (.dct (wD ts fun t => .int (w t)))
theorem pWorths_mo : MoP pWorths := fun _ _ _ q ⟨ts, lo, hi, e, a, b, c, d, z⟩ => ⟨ts, lo, hi, e, a, b, c, d, fun w h => q _ (z w h)⟩
theorem ok_worths (T : Txt K mg) : Calld P wd K mg base 2 "_law_worths" ["_law_bag_here", "_law_things_here", "_law_low", "_law_high"] pWorths := by
  refine defC T.d_worths sc_worths ?_ pWorths_mo ?_
  · rintro ds Q ⟨ts, lo, hi, rfl, _⟩
    rfl
  · rintro f cdv A outer s0 H E w ds Q hr hG ⟨ts, lo, hi, rfl, nd, hl, h1, h2, q⟩
    refine ⟨_, (psd_one (psd_ret (ped_dict T.m_dict (pad_cons (ped_lc (own := [("_law_name", 4)]) sc_worths.nd (pid_tup (ped_var 1)) (blkOk_by (own := [("_law_name", 4)]) (N := N_worths) (sc := defScope s_worths) (by decide +kernel)) (gd_name 4) (gName_mo 4) (by decide) (fun _ _ _ _ _ => (pg_name (i := 4) sc_worths.nd rfl (Or.inl rfl))) (fun _ _ _ _ _ => ptsd_nil) (fun _ _ _ _ _ => (ped_tup (pad_cons (ped_var 4) (pad_cons (ped_add (ped_var 2) (ped_f ((ok_take T).up (by decide)) hr hG (pad_cons (ped_var 0) (pad_cons (ped_add (ped_sub (ped_var 3) (ped_var 2)) ped_int) pad_nil)))) pad_nil)))) s0) pad_nil)))), ?_⟩
    refine ⟨_, rfl, _, rfl, ?_⟩
    refine lcD_all (fun d y => ∃ t i, d = .str t ∧ y = .tup [.str t, .int i] ∧ lo ≤ i ∧ i ≤ hi) _ [] (by simp; omega) (fun d hd R hR => ?_) fun ys hy => ?_
    · obtain ⟨t, _, rfl⟩ := List.mem_map.mp hd
      exact ⟨_, rfl, _, rfl, _, rfl, _, rfl, _, rfl, True.intro, _, rfl, (show 0 < hi - lo + 1 by omega), log_small (show 0 < hi - lo + 1 by omega) (show hi - lo + 1 ≤ 1000000000000 by omega), fun r c1 (c2 : r < hi - lo + 1) => ⟨show 2 ≤ sizeLine by decide, hR _ ⟨t, lo + r, rfl, rfl, by omega, by omega⟩⟩⟩
    · obtain ⟨wf, hw, rfl⟩ := paired_fun (F := fun _ i => lo ≤ i ∧ i ≤ hi) nd hy
      refine ⟨wD ts fun t => .int (wf t), ?_, ?_⟩
      · unfold wD
        rw [List.map_map]
        rfl
      · rw [mergeD_w nd]
        exact q wf hw
def pWorth : DSp := fun ds Q => ∃ (ts : List Str) (w : Str → Int) (a : List Str), ds = [.dct (wD ts fun t => .int (w t)), strsD a] ∧ (∀ t ∈ a, t ∈ ts) ∧ a.length ≤ 63 ∧ Q (.int (a.map w).sum)
theorem pWorth_mo : MoP pWorth := fun _ _ _ q ⟨ts, w, a, e, h, h', z⟩ => ⟨ts, w, a, e, h, h', q _ z⟩
theorem ok_worth (T : Txt K mg) : Calld P wd K mg base 1 "_law_worth" ["_law_worths_here", "_law_one_here"] pWorth := by
  refine defC T.d_worth sc_worth ?_ pWorth_mo ?_
  · rintro ds Q ⟨ts, w, a, rfl, _⟩
    rfl
  · rintro f cdv A outer s0 H E w ds Q hr hG ⟨ts, wf, a, rfl, h, hl, q⟩
    refine ⟨_, (psd_one (psd_ret (ped_sumB T.m_sum (pad_cons (ped_lc (own := [("_law_name", 2)]) sc_worth.nd (pid_tup (ped_var 1)) (blkOk_by (own := [("_law_name", 2)]) (N := N_worth) (sc := defScope s_worth) (by decide +kernel)) (gd_name 2) (gName_mo 2) (by decide) (fun _ _ _ _ _ => (pg_name (i := 2) sc_worth.nd rfl (Or.inl rfl))) (fun _ _ _ _ _ => ptsd_nil) (fun _ _ _ _ _ => (ped_dget hr (ped_var 0) (ped_var 2))) s0) pad_nil)))), ?_⟩
    refine ⟨_, rfl, _, rfl, ?_⟩
    refine lcD_ix _ ((a.map wf).map .int) [] (by simp) (by simp; omega) (fun k h1 h2 R hR => ?_) ⟨_, _, rfl, rfl, q⟩
    simp only [List.getElem_map] at hR ⊢
    have hk : k < a.length := by rwa [List.length_map] at h1
    exact ⟨_, rfl, _, rfl, _, .inr a[k], _, rfl, rfl, valD_w (h _ (List.getElem_mem hk)), hR⟩
/-- a row -/
def pDrawn : DSp := fun ds Q => ∃ m : Nat, ds = [.bag, .int (m : Nat)] ∧ m ≤ 63 ∧ ∀ x : List Int, x.length = m → Upto (10 ^ 39) x → Q (rowD x)
theorem pDrawn_mo : MoP pDrawn := fun _ _ _ q ⟨m, e, h, z⟩ => ⟨m, e, h, fun x h1 h2 => q _ (z x h1 h2)⟩
theorem ok_drawn_row (T : Txt K mg) : Calld P wd K mg base 2 "_law_drawn_row" ["_law_bag_here", "_law_many"] pDrawn := by
  refine defC T.d_drawn_row sc_drawn_row ?_ pDrawn_mo ?_
  · rintro ds Q ⟨m, rfl, _⟩
    rfl
  · rintro f cdv A outer s0 H E w ds Q hr hG ⟨m, rfl, hl, q⟩
    refine ⟨_, (psd_cons (psd_set (i := 2) (ped_at (fun _ _ => rfl) (ped_lst (pad_cons ped_int (pad_cons ped_int (pad_cons (ped_pow ped_int ped_int) pad_nil)))) (ped_f ((ok_take T).up (by decide)) hr hG (pad_cons (ped_var 0) (pad_cons ped_int pad_nil)))) sc_drawn_row.nd)
    (psd_one (psd_ret (ped_tupF T.m_tuple (pad_cons (ped_lc (own := [("_law_k", 3)]) sc_drawn_row.nd (pid_range T.m_range (ped_var 1)) (blkOk_by (own := [("_law_k", 3)]) (N := N_drawn_row) (sc := defScope s_drawn_row) (by decide +kernel)) (gd_name 3) (gName_mo 3) (by decide) (fun _ _ _ _ _ => (pg_name (i := 3) sc_drawn_row.nd rfl (Or.inl rfl))) (fun _ _ _ _ _ => ptsd_nil) (fun _ _ _ _ _ => (ped_mul (ped_f ((ok_take T).up (by decide)) hr hG (pad_cons (ped_var 0) (pad_cons (ped_add (ped_var 2) ped_int) pad_nil))) (ped_sub ped_int (ped_mul ped_int (ped_f ((ok_take T).up (by decide)) hr hG (pad_cons (ped_var 0) (pad_cons ped_int pad_nil))))))) s0) pad_nil))))), ?_⟩
    refine ⟨⟨by decide, by decide, by decide⟩, show 3 ≤ sizeLine by decide, _, rfl, _, rfl, by decide, by decide, fun r1 a1 a2 => ?_⟩
    obtain ⟨top, ht, t0, t1⟩ : ∃ top : Int, L2.atI [Da.int 3, .int 30, .int (10 ^ 39)] r1 = some (.int top) ∧ 0 ≤ top ∧ top ≤ 10 ^ 39 := by
      have : r1 = 0 ∨ r1 = 1 ∨ r1 = 2 := by omega
      rcases this with h | h | h
      · subst h; exact ⟨3, rfl, by decide, by decide⟩
      · subst h; exact ⟨30, rfl, by decide, by decide⟩
      · subst h; exact ⟨10 ^ 39, rfl, by decide, by decide⟩
    refine ⟨_, ht, _, rfl, _, rfl, by omega, by omega, ?_⟩
    rw [Int.toNat_natCast]
    refine lcD_all (fun d y => ∃ i, y = .int i ∧ -(10 ^ 39) ≤ i ∧ i ≤ 10 ^ 39) _ [] (by rw [rngD_len]; simp; omega) (fun d hd R hR => ?_) fun ys hy => ?_
    · refine ⟨_, rfl, _, rfl, _, rfl, by omega, Nat.lt_trans (log2_of (k := 200) (by omega) (by decide)) (by decide), fun r2 b1 b2 => ?_⟩
      refine ⟨_, rfl, _, rfl, by decide, by decide, fun r3 c1 (c2 : r3 < 2) => ⟨cmul_small ⟨by omega, by omega⟩, True.intro, ?_⟩⟩
      have b2' : r2 < top + 1 := b2
      have hs : (1 : Int) - 2 * r3 = 1 ∨ (1 : Int) - 2 * r3 = -1 := by omega
      refine ⟨cmul_small (i := r2) (j := 1 - 2 * r3) ⟨by omega, by omega⟩, hR _ ⟨r2 * (1 - 2 * r3), rfl, ?_⟩⟩
      rcases hs with h | h
      · rw [h]; omega
      · rw [h]; omega
    · have lb := paired_len hy
      rw [rngD_len] at lb
      obtain ⟨x, rfl, hb⟩ := all_ints (F := fun i => -(10 ^ 39) ≤ i ∧ i ≤ 10 ^ 39) fun y hy' => by
        obtain ⟨x, _, z⟩ := paired_mem hy hy'
        exact z
      rw [List.length_map] at lb
      exact ⟨_, rfl, .inl ⟨_, rfl, q x lb.symm hb⟩⟩
end
end K13
namespace K13
open PySem PySem.Spec PyProof.Rows L2 Pd
def menu : List Str := ["alike", "heavier", "unlike", "strike", "undo", "redo", "word", "why", "so", "ab", "abc", "a", "z", "zzzzzzzz", "things", "on"]
theorem menu_split : Txt.split "alike heavier unlike strike undo redo word why so ab abc a z zzzzzzzz things on" " " = menu := by decide +kernel
def abc : Str := "abcdefghijklmnopqrstuvwxyz"
def aas (m : Nat) : List Str := (List.range m).map fun k : Nat => cutS ("aaaaaaaa" : Str) none (some (((k : Nat) : Int) + 1))
def ltr (j : Nat) : Str := ⟨#[abc.cps.toList.getD j 0]⟩
def stemOf (w t : Nat) : Str := if w = 3 then ltr t else if w = 4 then "zzzzzzz" else ""
def lets (w t m : Nat) : List Str := (List.range m).map fun k => stemOf w t ++ ltr ((t + 3 * k) % 26)
theorem stem_len (w t : Nat) : (stemOf w t).length ≤ 7 := by
  unfold stemOf
  split
  · exact (by decide : 1 ≤ 7)
  · split
    · decide
    · decide
theorem menu_nd : menu.Nodup := by decide +kernel
theorem menu_asc : ∀ t ∈ menu, ∀ c ∈ t.cps.toList, c < 128 := by decide +kernel
theorem aas_ok : ∀ m < 7, (aas m).Nodup ∧ ∀ t ∈ aas m, ∀ c ∈ t.cps.toList, c < 128 := by decide +kernel
theorem lets_ok : ∀ w < 5, ∀ t < 16, ∀ m < 7, (lets w t m).Nodup ∧ ∀ s ∈ lets w t m, ∀ c ∈ s.cps.toList, c < 128 := by decide +kernel
section
variable {P : Program} {wd : World} {K : PySem.W.Frag} {mg : Str → Option Value} {base : Heap}
theorem rot_nd (t m : Nat) : ((menu.drop t ++ menu.take t).take m).Nodup := by
  have p : (menu.drop t ++ menu.take t).Perm menu := List.perm_append_comm.trans (by rw [List.take_append_drop])
  exact (p.nodup_iff.mpr menu_nd).sublist (List.take_sublist _ _)
theorem rot_mem {t m : Nat} {x : Str} (h : x ∈ (menu.drop t ++ menu.take t).take m) : x ∈ menu := by
  have p : (menu.drop t ++ menu.take t).Perm menu := List.perm_append_comm.trans (by rw [List.take_append_drop])
  exact p.mem_iff.mp (List.mem_of_mem_take h)
theorem letAt {j : Nat} (h : j < 26) : L2.atI abc.cps.toList ((j : Nat) : Int) = some (abc.cps.toList.getD j 0) := by
  refine L2.atI_nat ?_
  have l : abc.cps.toList.length = 26 := by decide +kernel
  rw [List.getElem?_eq_getElem (by omega)]
  exact congrArg some (List.getElem_eq_getD 0)
/-- up to six things -/
def pThings : DSp := fun ds Q => ∃ m : Nat, ds = [.bag, .int (m : Nat)] ∧ m ≤ 6 ∧ ∀ ts : List Str, ts.Nodup → Asc ts → ts.length ≤ 6 → Q (strsD ts)
theorem pThings_mo : MoP pThings := fun _ _ _ q ⟨m, e, h, z⟩ => ⟨m, e, h, fun ts h1 h2 h3 => q _ (z ts h1 h2 h3)⟩
theorem ok_things (T : Txt K mg) : Calld P wd K mg base 2 "_law_things" ["_law_bag_here", "_law_many"] pThings := by
  refine defC T.d_things sc_things ?_ pThings_mo ?_
  · rintro ds Q ⟨m, rfl, _⟩
    rfl
  · rintro f cdv A outer s0 H E w ds Q hr hG ⟨m, rfl, hm, q⟩
    refine ⟨_, (psd_cons (psd_set (i := 2) (ped_split ped_str ped_str) sc_things.nd)
    (psd_cons (psd_asg (ped_tup (pad_cons (ped_f ((ok_take T).up (by decide)) hr hG (pad_cons (ped_var 0) (pad_cons ped_int pad_nil))) (pad_cons (ped_f ((ok_take T).up (by decide)) hr hG (pad_cons (ped_var 0) (pad_cons ped_int pad_nil))) pad_nil))) (pg_tup rfl (pgs_cons (pg_name (i := 3) sc_things.nd rfl (Or.inl rfl)) (pgs_cons (pg_name (i := 4) sc_things.nd rfl (Or.inr rfl)) pgs_nil))) (gd_tup2 3 4) (gTup_mo (gCons_mo (gName_mo 3) (gCons_mo (gName_mo 4) gNil_mo))))
    (psd_cons (psd_if (ptd_eq hr (ped_var 3) ped_int) (psd_one (psd_ret (ped_tupF T.m_tuple (pad_cons (ped_sorted hr T.m_sorted (pad_cons (ped_slice (ped_add (ped_slice (ped_var 2) (pod_some (ped_var 4)) pod_none) (ped_slice (ped_var 2) pod_none (pod_some (ped_var 4)))) pod_none (pod_some (ped_var 1))) pad_nil)) pad_nil)))) psd_nil)
    (psd_cons (psd_if (ptd_eq hr (ped_var 3) ped_int) (psd_one (psd_ret (ped_tupF T.m_tuple (pad_cons (ped_lc (own := [("_law_k", 7)]) sc_things.nd (pid_range T.m_range (ped_var 1)) (blkOk_by (own := [("_law_k", 7)]) (N := N_things) (sc := defScope s_things) (by decide +kernel)) (gd_name 7) (gName_mo 7) (by decide) (fun _ _ _ _ _ => (pg_name (i := 7) sc_things.nd rfl (Or.inl rfl))) (fun _ _ _ _ _ => ptsd_nil) (fun _ _ _ _ _ => (ped_slice ped_str pod_none (pod_some (ped_add (ped_var 7) ped_int)))) s0) pad_nil)))) psd_nil)
    (psd_cons (psd_set (i := 5) ped_str sc_things.nd)
    (psd_cons (psd_set (i := 6) (ped_at (fun _ _ => rfl) (ped_lst (pad_cons ped_str (pad_cons ped_str (pad_cons (ped_at (fun _ _ => rfl) (ped_var 5) (ped_var 4)) (pad_cons ped_str pad_nil))))) (ped_sub (ped_var 3) ped_int)) sc_things.nd)
    (psd_one (psd_ret (ped_tupF T.m_tuple (pad_cons (ped_sorted hr T.m_sorted (pad_cons (ped_lc (own := [("_law_k", 7)]) sc_things.nd (pid_range T.m_range (ped_var 1)) (blkOk_by (own := [("_law_k", 7)]) (N := N_things) (sc := defScope s_things) (by decide +kernel)) (gd_name 7) (gName_mo 7) (by decide) (fun _ _ _ _ _ => (pg_name (i := 7) sc_things.nd rfl (Or.inl rfl))) (fun _ _ _ _ _ => ptsd_nil) (fun _ _ _ _ _ => (ped_add (ped_var 6) (ped_at (fun _ _ => rfl) (ped_var 5) (ped_mod (ped_intF T.m_int (pad_cons (ped_add (ped_var 4) (ped_mul ped_int (ped_var 7))) pad_nil)) ped_int)))) s0) pad_nil)) pad_nil)))))))))), ?_⟩
    refine ⟨_, rfl, _, rfl, by decide +kernel, by decide +kernel, ?_⟩
    rw [menu_split]
    have srted : ∀ a : List Str, a.Nodup → Asc a → a.length ≤ 6 → srtOk (a.map .str) ∧ ∃ b : List Str, srt (a.map .str) = b.map .str ∧ b.Nodup ∧ Asc b ∧ b.length ≤ 6 := fun a h1 h2 h3 => by
      obtain ⟨b, e, p⟩ := srt_strs (a := a)
      exact ⟨srtOk_strs (by omega), b, e, p.nodup_iff.mpr h1, fun t ht => h2 t (p.mem_iff.mp ht), by rw [p.length_eq]; exact h3⟩
    refine ⟨_, rfl, _, rfl, by decide, by decide, fun r1 a1 a2 => ⟨_, rfl, _, rfl, by decide, by decide, fun r2 b1 b2 => ⟨show 2 ≤ sizeLine by decide, _, _, rfl, ?_⟩⟩⟩
    obtain ⟨w', rfl⟩ := Int.eq_ofNat_of_zero_le a1
    obtain ⟨t, rfl⟩ := Int.eq_ofNat_of_zero_le b1
    have hw : w' < 5 := by omega
    have ht : t < 16 := by omega
    refine ⟨_, rfl, shp_int _, shp_int _, _, rfl, ite2 (fun h => ?_) (fun h => ?_)⟩
    · -- some of the menu
      have l1 : ((menu.drop t ++ menu.take t).take m).length ≤ 6 := by rw [List.length_take]; omega
      obtain ⟨s1, b, e, n1, n2, n3⟩ := srted _ (rot_nd t m) (fun x hx => menu_asc x (rot_mem hx)) l1
      have e1 : cutD (menu.map .str) (some (t : Int)) none = (menu.drop t).map .str := by
        rw [cutD_from _ (by rw [List.length_map]; exact Nat.le_of_lt ht), List.map_drop]
      have e2 : cutD (menu.map .str) none (some (t : Int)) = (menu.take t).map .str := by rw [cutD_to, List.map_take]
      have e3 : cutD ((menu.drop t).map .str ++ (menu.take t).map .str) none (some (m : Int)) = ((menu.drop t ++ menu.take t).take m).map .str := by rw [cutD_to, ← List.map_append, List.map_take]
      refine ⟨_, rfl, _, rfl, _, rfl, _, rfl, _, rfl, _, rfl, ?_⟩
      dsimp only [slD]
      rw [e1, e2]
      refine ⟨?_, _, rfl, _, rfl, ?_⟩
      · rw [List.length_map, List.length_map, List.length_drop, List.length_take, sizeLine_eq]
        have : menu.length = 16 := rfl
        omega
      · dsimp only [slD]
        rw [e3]
        refine ⟨_, _, rfl, rfl, s1, _, rfl, .inl ⟨_, rfl, ?_⟩⟩
        rw [e]
        exact q b n1 n2 n3
    · refine ⟨_, rfl, shp_int _, shp_int _, _, rfl, ite2 (fun h => ?_) (fun h => ?_)⟩
      · -- letters alone
        have ok := aas_ok m (by omega)
        refine ⟨_, rfl, _, rfl, by omega, by omega, ?_⟩
        rw [Int.toNat_natCast]
        refine lcD_ix _ ((aas m).map .str) [] (by rw [rngD_len]; simp [aas]) (by rw [rngD_len]; simp; omega) (fun k h1 h2 R hR => ?_) ⟨_, rfl, .inl ⟨_, rfl, q _ ok.1 ok.2 (by simp [aas]; omega)⟩⟩
        rw [rngD_get]
        simp only [List.getElem_map, aas, List.getElem_range] at hR
        exact ⟨_, rfl, _, rfl, by decide, hR⟩
      · have hw2 : 2 ≤ w' := by
          rw [eqd_int] at *
          have n0 : w' ≠ 0 := fun z => by subst z; simp_all
          have n1 : w' ≠ 1 := fun z => by subst z; simp_all
          omega
        have ok := lets_ok w' hw t ht m (by omega)
        obtain ⟨s1, b, e, n1, n2, n3⟩ := srted _ ok.1 ok.2 (by simp [lets]; omega)
        have hs : L2.atI [Da.str "", .str "", .str (ltr t), .str "zzzzzzz"] ((fun i j => i - j) (w' : Int) 1) = some (.str (stemOf w' t)) := by
          have : w' = 2 ∨ w' = 3 ∨ w' = 4 := by omega
          rcases this with z | z | z
          · subst z; rfl
          · subst z; rfl
          · subst z; rfl
        refine ⟨_, rfl, _, rfl, by decide, _, letAt (by omega), show 4 ≤ sizeLine by decide, _, rfl, True.intro, _, hs, ?_⟩
        refine ⟨_, rfl, _, rfl, by omega, by omega, ?_⟩
        rw [Int.toNat_natCast]
        refine lcD_ix _ ((lets w' t m).map .str) [] (by rw [rngD_len]; simp [lets]) (by rw [rngD_len]; simp; omega) (fun k h1 h2 R hR => ?_) ?_
        · rw [rngD_len] at h1
          rw [rngD_get]
          simp only [List.getElem_map, lets, List.getElem_range] at hR
          have e2 : (fun i j => i % j) ((t : Int) + (fun i j => i * j) 3 ((k : Nat) : Int)) 26 = (((t + 3 * k) % 26 : Nat) : Int) := by
            show ((t : Int) + 3 * (k : Int)) % 26 = _
            omega
          refine ⟨_, rfl, _, rfl, _, rfl, _, rfl, cmul_small' ⟨by omega, by omega⟩, .inl ⟨_, rfl, show (0 : Int) < 26 by decide, ?_⟩⟩
          rw [e2]
          refine ⟨by decide, _, letAt (Nat.mod_lt _ (by decide)), ?_, hR⟩
          have l1 := stem_len w' t
          have l2 : (ltr ((t + 3 * k) % 26)).length = 1 := rfl
          have l3 : (stemOf w' t).length + (ltr ((t + 3 * k) % 26)).length ≤ sizeLine := by rw [sizeLine_eq]; omega
          exact l3
        · refine ⟨_, _, rfl, rfl, s1, _, rfl, .inl ⟨_, rfl, ?_⟩⟩
          rw [List.nil_append, e]
          exact q b n1 n2 n3
end
end K13
namespace K13
open PySem PySem.Spec PyProof.Rows L2 Pd
/-! ### counted things and worths -/
theorem sum_one {w : Str → Int} {x : Str} : ∀ {ts : List Str}, ts.Nodup → x ∈ ts → (ts.map fun t => if (x == t) = true then w t else 0).sum = w x
  | [], _, h => by cases h
  | t :: ts, nd, h => by
    rw [List.map_cons, List.sum_cons]
    have n := List.nodup_cons.mp nd
    by_cases e : x = t
    · subst e
      rw [if_pos (beq_self_eq_true x)]
      have z : (ts.map fun t => if (x == t) = true then w t else 0) = ts.map fun _ => 0 := List.map_congr_left fun s hs => if_neg fun q => n.1 (by rw [eq_of_beq q]; exact hs)
      rw [z]
      have : ∀ l : List Str, (l.map fun _ => (0 : Int)).sum = 0 := fun l => by
        induction l with
        | nil => rfl
        | cons a l ih => rw [List.map_cons, List.sum_cons, ih]; rfl
      rw [this]
      omega
    · rw [if_neg fun q => e (eq_of_beq q), sum_one n.2 ((List.mem_cons.mp h).resolve_left e)]
      omega
theorem sum_add {f g : Str → Int} : ∀ {ts : List Str}, (ts.map fun t => f t + g t).sum = (ts.map f).sum + (ts.map g).sum
  | [] => rfl
  | t :: ts => by
    rw [List.map_cons, List.map_cons, List.map_cons, List.sum_cons, List.sum_cons, List.sum_cons, sum_add]
    omega
theorem sum_sub {f g : Str → Int} : ∀ {ts : List Str}, (ts.map fun t => f t - g t).sum = (ts.map f).sum - (ts.map g).sum
  | [] => rfl
  | t :: ts => by
    rw [List.map_cons, List.map_cons, List.map_cons, List.sum_cons, List.sum_cons, List.sum_cons, sum_sub]
    omega
theorem cnt_sum {ts : List Str} (nd : ts.Nodup) (w : Str → Int) : ∀ {a : List Str}, (∀ t ∈ a, t ∈ ts) → (ts.map fun t => ((a.countP (· == t) : Nat) : Int) * w t).sum = (a.map w).sum
  | [], _ => by
    have : ∀ l : List Str, (l.map fun t => (((([] : List Str).countP (· == t)) : Nat) : Int) * w t).sum = 0 := fun l => by
      induction l with
      | nil => rfl
      | cons a l ih => rw [List.map_cons, List.sum_cons, ih, List.countP_nil]; simp
    rw [this]
    rfl
  | x :: a, h => by
    have e : (ts.map fun t => (((x :: a).countP (· == t) : Nat) : Int) * w t) = ts.map fun t => ((a.countP (· == t) : Nat) : Int) * w t + (if (x == t) = true then w t else 0) := by
      refine List.map_congr_left fun t _ => ?_
      rw [List.countP_cons]
      by_cases q : (x == t) = true
      · rw [if_pos q, if_pos q, Int.natCast_add, Int.add_mul]
        simp
      · rw [if_neg q, if_neg q]
        simp
    rw [e, sum_add, cnt_sum nd w fun t ht => h t (List.mem_cons_of_mem _ ht), sum_one nd (h x List.mem_cons_self), List.map_cons, List.sum_cons, Int.add_comm]
theorem row_dot {ts a b : List Str} (nd : ts.Nodup) (w : Str → Int) (ha : ∀ t ∈ a, t ∈ ts) (hb : ∀ t ∈ b, t ∈ ts) : (List.zipWith (· * ·) (rowOf ts a b) (ts.map w)).sum = (a.map w).sum - (b.map w).sum := by
  have e : List.zipWith (· * ·) (rowOf ts a b) (ts.map w) = ts.map fun t => ((a.countP (· == t) : Nat) : Int) * w t - ((b.countP (· == t) : Nat) : Int) * w t := by
    unfold rowOf
    rw [List.zipWith_map, List.zipWith_self]
    exact List.map_congr_left fun t _ => Int.sub_mul _ _ _
  rw [e, sum_sub, cnt_sum nd w ha, cnt_sum nd w hb]
theorem row_sum {ts a b : List Str} (nd : ts.Nodup) (ha : ∀ t ∈ a, t ∈ ts) (hb : ∀ t ∈ b, t ∈ ts) : (rowOf ts a b).sum = (a.length : Int) - (b.length : Int) := by
  have z := row_dot nd (fun _ => 1) ha hb
  have e : List.zipWith (· * ·) (rowOf ts a b) (ts.map fun _ => (1 : Int)) = rowOf ts a b := by
    unfold rowOf
    rw [List.zipWith_map, List.zipWith_self]
    exact List.map_congr_left fun t _ => Int.mul_one _
  have f : ∀ l : List Str, (l.map fun _ => (1 : Int)).sum = (l.length : Int) := fun l => by
    induction l with
    | nil => rfl
    | cons a l ih => rw [List.map_cons, List.sum_cons, ih, List.length_cons]; omega
  rw [e, f, f] at z
  exact z
theorem row_upto {ts a b : List Str} (ha : a.length ≤ 8) (hb : b.length ≤ 8) : Upto 8 (rowOf ts a b) := fun i hi => by
  obtain ⟨t, _, rfl⟩ := List.mem_map.mp hi
  have p := List.countP_le_length (p := (· == t)) (l := a)
  have q := List.countP_le_length (p := (· == t)) (l := b)
  omega
theorem _root_.Pd.Upto.up {b c : Int} {is : List Int} (h : Upto b is) (hc : b ≤ c) : Upto c is := fun i hi => by
  have := h i hi
  omega
/-! ### mixtures' sizes -/
theorem mix_upto {B N : Int} : ∀ (ps : List (List Int × Int)) (acc : List Int) (c : Int), Upto c acc → (∀ p ∈ ps, Upto B p.1 ∧ -N ≤ p.2 ∧ p.2 ≤ N) → Upto (c + B * N * ps.length) (ps.foldl (fun acc p => List.zipWith (· + ·) acc (p.1.map (· * p.2))) acc)
  | [], acc, c, h, _ => by
    refine h.up ?_
    rw [List.length_nil]
    omega
  | p :: ps, acc, c, h, hp => by
    have z := mix_upto ps (List.zipWith (· + ·) acc (p.1.map (· * p.2))) (c + B * N) (fun i hi => ?_) fun q hq => hp q (List.mem_cons_of_mem _ hq)
    · refine z.up ?_
      rw [List.length_cons, Int.natCast_add, Int.mul_add]
      omega
    · obtain ⟨j, hj, e⟩ := List.getElem_of_mem hi
      rw [List.length_zipWith, List.length_map] at hj
      rw [List.getElem_zipWith, List.getElem_map] at e
      have h1 := h.at (k := j) (by omega)
      have h2 := mul_upto ((hp p List.mem_cons_self).1.at (k := j) (by omega)) (hp p List.mem_cons_self).2
      omega
theorem mixI_upto {rows : List (List Int)} {ns : List Int} {m : Nat} {B N : Int} (h1 : ∀ row ∈ rows, Upto B row) (h2 : Upto N ns) : Upto (B * N * ((rows.zip ns).length : Nat)) (mixI rows ns m) := by
  refine (mix_upto (rows.zip ns) (List.replicate m 0) 0 (fun i hi => ?_) fun p hp => ⟨h1 _ (List.of_mem_zip hp).1, h2 _ (List.of_mem_zip hp).2⟩).up (by omega)
  rw [List.eq_of_mem_replicate hi]
  omega
section
variable {P : Program} {wd : World} {K : PySem.W.Frag} {mg : Str → Option Value} {base : Heap}
def pPR : DSp := fun ds Q => ∃ ts : List Str, ds = [.bag, strsD ts] ∧ ts.Nodup ∧ Asc ts ∧ ts.length ≤ 6 ∧ Q (.bl true)
theorem pPR_mo : MoP pPR := fun _ _ _ q ⟨ts, e, a, b, c, z⟩ => ⟨ts, e, a, b, c, q _ z⟩
theorem ok_pair_right (T : Txt K mg) : Calld P wd K mg base 5 "_law_pair_right" ["_law_bag_here", "_law_things_here"] pPR := by
  refine defC T.d_pair_right sc_pair_right ?_ pPR_mo ?_
  · rintro ds Q ⟨ts, rfl, _⟩
    rfl
  · rintro f cdv A outer s0 H E w ds Q hr hG ⟨ts, rfl, nd, ha, hl, q⟩
    refine ⟨_, (psd_cons (psd_set (i := 2) (ped_f ((ok_pair T).up (by decide)) hr hG (pad_cons (ped_var 0) (pad_cons (ped_var 1) pad_nil))) sc_pair_right.nd)
    (psd_cons (psd_asg (ped_tup (pad_cons (ped_f ((okp_row_of T).up (by decide)) hr hG (pad_cons (ped_var 1) (pad_cons (ped_var 2) pad_nil))) (pad_cons (ped_f ((ok_worths T).up (by decide)) hr hG (pad_cons (ped_var 0) (pad_cons (ped_var 1) (pad_cons (ped_neg ped_int) (pad_cons ped_int pad_nil))))) pad_nil))) (pg_tup rfl (pgs_cons (pg_name (i := 3) sc_pair_right.nd rfl (Or.inl rfl)) (pgs_cons (pg_name (i := 4) sc_pair_right.nd rfl (Or.inr rfl)) pgs_nil))) (gd_tup2 3 4) (gTup_mo (gCons_mo (gName_mo 3) (gCons_mo (gName_mo 4) gNil_mo))))
    (psd_cons (psd_if (PWd.pt (pwd_or (ptd_not (ptd_val (ped_f ((ok_alike T).up (by decide)) hr hG (pad_cons (ped_var 3) (pad_cons (ped_f ((ok_row T).up (by decide)) hr hG (pad_cons (ped_var 1) (pad_cons (ped_var 2) pad_nil))) pad_nil))))) (pwd_or1 (ptd_not (ptd_val (ped_f ((ok_alike T).up (by decide)) hr hG (pad_cons (ped_f ((okp_is_balanced T).up (by decide)) hr hG (pad_cons (ped_var 3) pad_nil)) (pad_cons (ped_eq hr (ped_len T.m_len (pad_cons (ped_at (fun _ _ => rfl) (ped_var 2) ped_int) pad_nil)) (ped_len T.m_len (pad_cons (ped_at (fun _ _ => rfl) (ped_var 2) ped_int) pad_nil))) pad_nil)))))))) (psd_one (psd_ret ped_bl)) psd_nil)
    (psd_cons (psd_set (i := 5) (ped_sub (ped_f ((ok_worth T).up (by decide)) hr hG (pad_cons (ped_var 4) (pad_cons (ped_at (fun _ _ => rfl) (ped_var 2) ped_int) pad_nil))) (ped_f ((ok_worth T).up (by decide)) hr hG (pad_cons (ped_var 4) (pad_cons (ped_at (fun _ _ => rfl) (ped_var 2) ped_int) pad_nil)))) sc_pair_right.nd)
    (psd_one (psd_ret (ped_eq hr (ped_f ((okp_dot T).up (by decide)) hr hG (pad_cons (ped_var 3) (pad_cons (ped_tupF T.m_tuple (pad_cons (ped_lc (own := [("_law_name", 6)]) sc_pair_right.nd (pid_tup (ped_var 1)) (blkOk_by (own := [("_law_name", 6)]) (N := N_pair_right) (sc := defScope s_pair_right) (by decide +kernel)) (gd_name 6) (gName_mo 6) (by decide) (fun _ _ _ _ _ => (pg_name (i := 6) sc_pair_right.nd rfl (Or.inl rfl))) (fun _ _ _ _ _ => ptsd_nil) (fun _ _ _ _ _ => (ped_dget hr (ped_var 4) (ped_var 6))) s0) pad_nil)) pad_nil))) (ped_var 5)))))))), ?_⟩
    refine ⟨_, rfl, _, rfl, ts, rfl, ha, by omega, fun a b ha1 hb1 ha2 hb2 => ?_⟩
    refine ⟨_, rfl, _, rfl, ts, a, b, rfl, by omega, _, rfl, _, rfl, ts, -9, 9, rfl, nd, by omega, by decide, by decide, fun wf hw => ⟨show 2 ≤ sizeLine by decide, _, _, rfl, ?_⟩⟩
    have hlr : (rowOf ts a b).length ≤ 6 := by unfold rowOf; rw [List.length_map]; exact hl
    have e : eqd (.int (((a.map Da.str).length : Nat) : Int)) (.int (((b.map Da.str).length : Nat) : Int)) = ((rowOf ts a b).sum == 0) := by
      rw [eqd_int, row_sum nd ha1 hb1, List.length_map, List.length_map, Bool.eq_iff_iff, beq_iff_eq, beq_iff_eq]
      omega
    refine ⟨_, rfl, _, rfl, _, rfl, ts, a, b, rfl, by omega, rowD (rowOf ts a b), 1, _, rfl, sz_row (row_upto ha2 hb2) (by decide) hlr, by decide, by decide, true, rfl, (if_neg (by decide)).mpr ?_⟩
    refine ⟨_, rfl, _, rfl, _, rfl, _, rfl, _, rfl, .inl ⟨_, rfl, _, rfl, _, rfl, _, rfl, .inl ⟨_, rfl, shp_int _, shp_int _, ?_⟩⟩⟩
    refine ⟨.bl ((rowOf ts a b).sum == 0), 0, 5, by rw [← e]; rfl, sz_bl _, by decide, by decide, true, rfl, (if_neg (by decide)).mpr ?_⟩
    refine ⟨_, rfl, _, rfl, _, rfl, ts, wf, a, rfl, ha1, by omega, _, rfl, _, rfl, _, rfl, ts, wf, b, rfl, hb1, by omega, True.intro, ?_⟩
    refine ⟨_, rfl, _, rfl, _, rfl, ?_⟩
    refine lcD_ix _ ((ts.map wf).map .int) [] (by simp) (by simp; omega) (fun k h1 h2 R hR => ?_) ?_
    · simp only [List.getElem_map] at hR ⊢
      have hk : k < ts.length := by rwa [List.length_map] at h1
      exact ⟨_, rfl, _, rfl, _, .inr ts[k], _, rfl, rfl, valD_w (List.getElem_mem hk), hR⟩
    · refine ⟨_, rfl, .inl ⟨_, rfl, rowOf ts a b, ts.map wf, rfl, by simp [rowOf], by omega, (row_upto ha2 hb2).up (by decide), fun i hi => ?_, _, rfl, shp_int _, shp_int _, ?_⟩⟩
      · obtain ⟨t, ht, rfl⟩ := List.mem_map.mp hi
        have := hw t ht
        omega
      · rw [eqd_int, row_dot nd wf ha1 hb1]
        have e2 : ((a.map wf).sum - (b.map wf).sum == (fun i j => i - j) (a.map wf).sum (b.map wf).sum) = true := beq_self_eq_true _
        rw [if_neg Bool.false_ne_true, e2]
        exact q
end
end K13
namespace K13
open PySem PySem.Spec PyProof.Rows L2 Pd
section
variable {P : Program} {wd : World} {K : PySem.W.Frag} {mg : Str → Option Value} {base : Heap}
theorem all_rows {F : List Int → Prop} : ∀ {ys : List Da}, (∀ y ∈ ys, ∃ t, y = rowD t ∧ F t) → ∃ b : List (List Int), ys = b.map rowD ∧ ∀ t ∈ b, F t
  | [], _ => ⟨[], rfl, fun _ h => by cases h⟩
  | y :: ys, h => by
    obtain ⟨b, rfl, hb⟩ := all_rows (ys := ys) fun z hz => h z (List.mem_cons_of_mem _ hz)
    obtain ⟨t, rfl, ht⟩ := h y List.mem_cons_self
    refine ⟨t :: b, rfl, fun s hs => ?_⟩
    rcases List.mem_cons.mp hs with e | e
    · rw [e]; exact ht
    · exact hb s e
def pRR : DSp := fun ds Q => ∃ m : Nat, ds = [.bag, .int (m : Nat)] ∧ m ≤ 6 ∧ Q (.bl true)
theorem pRR_mo : MoP pRR := fun _ _ _ q ⟨m, e, a, z⟩ => ⟨m, e, a, q _ z⟩
abbrev B39 : Int := 10 ^ 39
theorem zip_upto {f : Int → Int → Int} {x y : List Int} {b c : Int} (h : ∀ i j, -b ≤ i ∧ i ≤ b → -b ≤ j ∧ j ≤ b → -c ≤ f i j ∧ f i j ≤ c) (hx : Upto b x) (hy : Upto b y) : Upto c (List.zipWith f x y) := fun i hi => by
  obtain ⟨j, hj, e⟩ := List.getElem_of_mem hi
  rw [List.length_zipWith] at hj
  rw [List.getElem_zipWith] at e
  rw [← e]
  exact h _ _ (hx.at (by omega)) (hy.at (by omega))
theorem ok_rows_right (T : Txt K mg) : Calld P wd K mg base 3 "_law_rows_right" ["_law_bag_here", "_law_many"] pRR := by
  refine defC T.d_rows_right sc_rows_right ?_ pRR_mo ?_
  · rintro ds Q ⟨m, rfl, _⟩
    rfl
  · rintro f cdv A outer s0 H E w ds Q hr hG ⟨m, rfl, hm, q⟩
    refine ⟨_, (psd_cons (psd_asg (ped_tup (pad_cons (ped_f ((ok_drawn_row T).up (by decide)) hr hG (pad_cons (ped_var 0) (pad_cons (ped_var 1) pad_nil))) (pad_cons (ped_f ((ok_drawn_row T).up (by decide)) hr hG (pad_cons (ped_var 0) (pad_cons (ped_var 1) pad_nil))) (pad_cons (ped_sub (ped_f ((ok_take T).up (by decide)) hr hG (pad_cons (ped_var 0) (pad_cons ped_int pad_nil))) ped_int) pad_nil)))) (pg_tup rfl (pgs_cons (pg_name (i := 2) sc_rows_right.nd rfl (Or.inr rfl)) (pgs_cons (pg_name (i := 3) sc_rows_right.nd rfl (Or.inr rfl)) (pgs_cons (pg_name (i := 4) sc_rows_right.nd rfl (Or.inr rfl)) pgs_nil)))) (gd_tup3 2 3 4) (gTup_mo (gCons_mo (gName_mo 2) (gCons_mo (gName_mo 3) (gCons_mo (gName_mo 4) gNil_mo)))))
    (psd_cons (psd_set (i := 5) (ped_lst (pad_cons (ped_f ((okp_added T).up (by decide)) hr hG (pad_cons (ped_var 2) (pad_cons (ped_var 3) pad_nil))) (pad_cons (ped_f ((okp_taken T).up (by decide)) hr hG (pad_cons (ped_var 2) (pad_cons (ped_var 3) pad_nil))) (pad_cons (ped_f ((okp_times T).up (by decide)) hr hG (pad_cons (ped_var 2) (pad_cons (ped_var 4) pad_nil))) (pad_cons (ped_f ((okp_dot T).up (by decide)) hr hG (pad_cons (ped_var 2) (pad_cons (ped_var 3) pad_nil))) (pad_cons (ped_f ((okp_is_balanced T).up (by decide)) hr hG (pad_cons (ped_var 2) pad_nil)) pad_nil)))))) sc_rows_right.nd)
    (psd_cons (psd_set (i := 6) (ped_lst (pad_cons (ped_tupF T.m_tuple (pad_cons (ped_lc (own := [("_law_k", 10)]) sc_rows_right.nd (pid_range T.m_range (ped_var 1)) (blkOk_by (own := [("_law_k", 10)]) (N := N_rows_right) (sc := defScope s_rows_right) (by decide +kernel)) (gd_name 10) (gName_mo 10) (by decide) (fun _ _ _ _ _ => (pg_name (i := 10) sc_rows_right.nd rfl (Or.inl rfl))) (fun _ _ _ _ _ => ptsd_nil) (fun _ _ _ _ _ => (ped_add (ped_at (fun _ _ => rfl) (ped_var 2) (ped_var 10)) (ped_at (fun _ _ => rfl) (ped_var 3) (ped_var 10)))) s0) pad_nil)) (pad_cons (ped_tupF T.m_tuple (pad_cons (ped_lc (own := [("_law_k", 10)]) sc_rows_right.nd (pid_range T.m_range (ped_var 1)) (blkOk_by (own := [("_law_k", 10)]) (N := N_rows_right) (sc := defScope s_rows_right) (by decide +kernel)) (gd_name 10) (gName_mo 10) (by decide) (fun _ _ _ _ _ => (pg_name (i := 10) sc_rows_right.nd rfl (Or.inl rfl))) (fun _ _ _ _ _ => ptsd_nil) (fun _ _ _ _ _ => (ped_sub (ped_at (fun _ _ => rfl) (ped_var 2) (ped_var 10)) (ped_at (fun _ _ => rfl) (ped_var 3) (ped_var 10)))) s0) pad_nil)) pad_nil))) sc_rows_right.nd)
    (psd_cons (psd_set (i := 6) (ped_add (ped_var 6) (ped_lst (pad_cons (ped_tupF T.m_tuple (pad_cons (ped_lc (own := [("_law_part", 11)]) sc_rows_right.nd (pid_tup (ped_var 2)) (blkOk_by (own := [("_law_part", 11)]) (N := N_rows_right) (sc := defScope s_rows_right) (by decide +kernel)) (gd_name 11) (gName_mo 11) (by decide) (fun _ _ _ _ _ => (pg_name (i := 11) sc_rows_right.nd rfl (Or.inl rfl))) (fun _ _ _ _ _ => ptsd_nil) (fun _ _ _ _ _ => (ped_mul (ped_var 4) (ped_var 11))) s0) pad_nil)) (pad_cons (ped_f ((ok_dot T).up (by decide)) hr hG (pad_cons (ped_var 2) (pad_cons (ped_var 3) pad_nil))) (pad_cons (ped_eq hr (ped_sumB T.m_sum (pad_cons (ped_var 2) pad_nil)) ped_int) pad_nil))))) sc_rows_right.nd)
    (psd_cons (psd_if (ptd_not (ptd_val (ped_f ((ok_alike T).up (by decide)) hr hG (pad_cons (ped_var 5) (pad_cons (ped_var 6) pad_nil))))) (psd_one (psd_ret ped_bl)) psd_nil)
    (psd_cons (psd_setLc (i := 7) (own := [("_law_k", 10)]) sc_rows_right.nd (pid_range T.m_range (ped_f ((ok_take T).up (by decide)) hr hG (pad_cons (ped_var 0) (pad_cons ped_int pad_nil)))) (blkOk_by (own := [("_law_k", 10)]) (N := N_rows_right) (sc := defScope s_rows_right) (by decide +kernel)) (gd_name 10) (gName_mo 10) (by decide) (fun _ _ _ _ _ => (pg_name (i := 10) sc_rows_right.nd rfl (Or.inl rfl))) (fun _ _ _ _ _ => ptsd_nil) (fun _ _ _ _ _ => (ped_f ((ok_drawn_row T).up (by decide)) hr hG (pad_cons (ped_var 0) (pad_cons (ped_var 1) pad_nil)))) s0 (sw_true rfl rfl rfl (by decide +kernel)))
    (psd_cons (psd_setLc (i := 8) (own := [("_law_row_here", 12)]) sc_rows_right.nd (pid_list (ped_var 7)) (blkOk_by (own := [("_law_row_here", 12)]) (N := N_rows_right) (sc := defScope s_rows_right) (by decide +kernel)) (gd_name 12) (gName_mo 12) (by decide) (fun _ _ _ _ _ => (pg_name (i := 12) sc_rows_right.nd rfl (Or.inl rfl))) (fun _ _ _ _ _ => ptsd_nil) (fun _ _ _ _ _ => (ped_sub (ped_f ((ok_take T).up (by decide)) hr hG (pad_cons (ped_var 0) (pad_cons ped_int pad_nil))) ped_int)) s0 (sw_true rfl rfl rfl (by decide +kernel)))
    (psd_cons (psd_set (i := 9) (ped_lst (pad_cons (ped_lstF T.m_list (pad_cons (ped_var 7) pad_nil)) (pad_cons (ped_lstF T.m_list (pad_cons (ped_var 8) pad_nil)) pad_nil))) sc_rows_right.nd)
    (psd_cons (psd_if (ptd_not (ptd_val (ped_f ((ok_alike T).up (by decide)) hr hG (pad_cons (ped_f ((okp_mixture T).up (by decide)) hr hG (pad_cons (ped_at (fun _ _ => rfl) (ped_var 9) ped_int) (pad_cons (ped_at (fun _ _ => rfl) (ped_var 9) ped_int) (pad_cons (ped_var 1) pad_nil)))) (pad_cons (ped_f ((ok_mixture T).up (by decide)) hr hG (pad_cons (ped_var 7) (pad_cons (ped_var 8) (pad_cons (ped_var 1) pad_nil)))) pad_nil))))) (psd_one (psd_ret ped_bl)) psd_nil)
    (psd_one (psd_ret (ped_eq hr (ped_var 9) (ped_lst (pad_cons (ped_var 7) (pad_cons (ped_var 8) pad_nil))))))))))))))), ?_⟩
    refine ⟨_, rfl, _, rfl, m, rfl, by omega, fun x hx ux => ⟨_, rfl, _, rfl, m, rfl, by omega, fun y hy uy => ⟨_, rfl, _, rfl, by decide, by decide, fun n0 n1 n2 => ⟨True.intro, show 3 ≤ sizeLine by decide, _, _, _, rfl, ?_⟩⟩⟩⟩
    obtain ⟨n, en, l1, l2⟩ : ∃ n : Int, n0 - 20 = n ∧ -20 ≤ n ∧ n ≤ 20 := ⟨_, rfl, by omega, by omega⟩
    dsimp only
    rw [en]
    have ux' : Upto (2 ^ 399) x := ux.up (by decide)
    have uy' : Upto (2 ^ 399) y := uy.up (by decide)
    -- found
    refine ⟨_, rfl, _, rfl, x, y, rfl, by omega, by omega, _, rfl, _, rfl, x, y, rfl, by omega, by omega, _, rfl, _, rfl, x, n, rfl, by omega, by omega, by omega, ?_⟩
    refine ⟨_, rfl, _, rfl, x, y, rfl, by omega, by omega, ux', uy', _, rfl, x, rfl, show 5 ≤ sizeLine by decide, ?_⟩
    -- due
    refine ⟨_, rfl, _, rfl, by omega, by omega, ?_⟩
    rw [Int.toNat_natCast]
    refine lcD_ix0 _ ((List.zipWith (· + ·) x y).map .int) (by rw [rngD_len]; simp; omega) (by rw [rngD_len]; omega) (fun k h1 h2 R hR => ?_) ?_
    · rw [rngD_len] at h1
      rw [rngD_get]
      simp only [List.getElem_map, List.getElem_zipWith] at hR
      exact ⟨_, rfl, _, rfl, _, at_int (by omega), _, rfl, _, rfl, _, at_int (by omega), hR⟩
    refine ⟨_, rfl, .inl ⟨_, rfl, _, rfl, _, rfl, by omega, by omega, ?_⟩⟩
    rw [Int.toNat_natCast]
    refine lcD_ix0 _ ((List.zipWith (· - ·) x y).map .int) (by rw [rngD_len]; simp; omega) (by rw [rngD_len]; omega) (fun k h1 h2 R hR => ?_) ?_
    · rw [rngD_len] at h1
      rw [rngD_get]
      simp only [List.getElem_map, List.getElem_zipWith] at hR
      exact ⟨_, rfl, _, rfl, _, at_int (by omega), _, rfl, _, rfl, _, at_int (by omega), True.intro, hR⟩
    refine ⟨_, rfl, .inl ⟨_, rfl, show 2 ≤ sizeLine by decide, ?_⟩⟩
    refine ⟨_, rfl, _, rfl, _, rfl, ?_⟩
    refine lcD_ix0 _ ((x.map (· * n)).map .int) (by simp) (by simp; omega) (fun k h1 h2 R hR => ?_) ?_
    · simp only [List.getElem_map] at hR ⊢
      rw [Int.mul_comm] at hR
      exact ⟨_, rfl, _, rfl, cmul_small' ⟨by omega, by omega⟩, hR⟩
    refine ⟨_, rfl, .inl ⟨_, rfl, _, rfl, _, rfl, x, y, rfl, by omega, by omega, ux', uy', _, rfl, _, x, rfl, rfl, shp_int _, shp_int _, show 3 ≤ sizeLine by decide, show 5 ≤ sizeLine by decide, ?_⟩⟩
    rw [if_neg Bool.false_ne_true, eqd_int]
    -- they are alike
    have z1 : Sz (rowD (List.zipWith (· + ·) x y)) 1 11541 := sz_row (zip_upto (c := 2 * 10 ^ 39) (fun i j h1 h2 => by omega) ux uy) (by decide) (n := 6) (by rw [List.length_zipWith]; omega)
    have z2 : Sz (rowD (List.zipWith (· - ·) x y)) 1 11541 := sz_row (zip_upto (c := 2 * 10 ^ 39) (fun i j h1 h2 => by omega) ux uy) (by decide) (n := 6) (by rw [List.length_zipWith]; omega)
    have z3 : Sz (rowD (x.map (· * n))) 1 11541 := by
      refine sz_row (b := 10 ^ 39 * 20) (fun i hi => ?_) (by decide) (n := 6) (by rw [List.length_map]; omega)
      obtain ⟨j, hj, rfl⟩ := List.mem_map.mp hi
      exact mul_upto (ux j hj) ⟨l1, l2⟩
    have z4 : Sz (.int (List.zipWith (· * ·) x y).sum) 1 11541 := by
      have u : Upto (10 ^ 39 * 10 ^ 39) (List.zipWith (· * ·) x y) := zip_upto (fun i j h1 h2 => mul_upto h1 h2) ux uy
      have t := sum_upto u
      have l : (List.zipWith (· * ·) x y).length ≤ 6 := by rw [List.length_zipWith]; omega
      have g : (10 ^ 39 * 10 ^ 39 : Int) * ((List.zipWith (· * ·) x y).length : Nat) ≤ 10 ^ 39 * 10 ^ 39 * 6 := Int.mul_le_mul_of_nonneg_left (by omega) (by decide)
      exact (sz_int' (by omega) (by omega)).up (by decide) (by decide)
    have S : Sz (.lst [rowD (List.zipWith (· + ·) x y), rowD (List.zipWith (· - ·) x y), rowD (x.map (· * n)), .int (List.zipWith (· * ·) x y).sum, .bl (x.sum == 0)]) 2 (5 * (11541 + 2) + 3) := sz_lst fun d hd => by
      rcases List.mem_cons.mp hd with h | hd
      · rw [h]; exact z1
      rcases List.mem_cons.mp hd with h | hd
      · rw [h]; exact z2
      rcases List.mem_cons.mp hd with h | hd
      · rw [h]; exact z3
      rcases List.mem_cons.mp hd with h | hd
      · rw [h]; exact z4
      rcases List.mem_cons.mp hd with h | hd
      · rw [h]; exact (sz_bl _).up (by decide) (by decide)
      · cases hd
    refine ⟨_, rfl, _, rfl, _, 2, _, rfl, S, by decide, by decide, true, rfl, (if_neg (by decide)).mpr ?_⟩
    -- rows and numbers
    refine ⟨_, rfl, _, rfl, by decide, by decide, fun k0 k1 k2 => ⟨_, rfl, by omega, by omega, ?_⟩⟩
    refine lcD_all0 (fun d y => ∃ t, y = rowD t ∧ t.length = m ∧ Upto (10 ^ 39) t) _ (by rw [rngD_len]; omega) (fun d hd R hR => ⟨_, rfl, _, rfl, m, rfl, by omega, fun t ht ut => hR _ ⟨t, rfl, ht, ut⟩⟩) fun ys hy => ?_
    have lr := paired_len hy
    rw [rngD_len] at lr
    obtain ⟨rows, rfl, hrows⟩ := all_rows (F := fun t => t.length = m ∧ Upto (10 ^ 39) t) fun y hy' => by
      obtain ⟨_, _, z⟩ := paired_mem hy hy'
      exact z
    rw [List.length_map] at lr
    refine ⟨_, rfl, _, rfl, ?_⟩
    refine lcD_all0 (fun d y => ∃ i, y = .int i ∧ -10 ≤ i ∧ i ≤ 10) _ (by simp; omega) (fun d hd R hR => ⟨_, rfl, _, rfl, by decide, by decide, fun i0 i1 i2 => ⟨True.intro, hR _ ⟨i0 - 10, rfl, by omega, by omega⟩⟩⟩) fun zs hz => ?_
    have ln := paired_len hz
    obtain ⟨ns, rfl, hns⟩ := all_ints (F := fun i => -10 ≤ i ∧ i ≤ 10) fun y hy' => by
      obtain ⟨_, _, z⟩ := paired_mem hz hy'
      exact z
    rw [List.length_map, List.length_map] at ln
    have un : Upto 10 ns := hns
    have hl8 : rows.length ≤ 8 := by omega
    have hlen : ∀ row ∈ rows, row.length = m := fun row h => (hrows row h).1
    have hup : ∀ row ∈ rows, Upto (10 ^ 39) row := fun row h => (hrows row h).2
    -- handed
    refine ⟨_, rfl, _, _, rfl, rfl, _, rfl, _, _, rfl, rfl, show 2 ≤ sizeLine by decide, ?_⟩
    have zm : Sz (rowD (mixI rows ns m)) 1 11541 := by
      refine sz_row (b := 10 ^ 39 * 10 * 8) ((mixI_upto hup un).up ?_) (by decide) (n := 6) (by rw [mixI_length hlen]; exact hm)
      refine Int.mul_le_mul_of_nonneg_left ?_ (by decide)
      rw [List.length_zip]
      omega
    refine ⟨_, rfl, _, rfl, _, rfl, _, rfl, _, rfl, rows, ns, m, rfl, ln, by omega, by omega, hlen, un.up (by decide), ?_⟩
    refine ⟨_, rfl, _, rfl, _, rfl, rows, ns, m, rfl, ln, by omega, by omega, hlen, un.up (by decide), _, 1, _, rfl, zm, by decide, by decide, true, rfl, (if_neg (by decide)).mpr ?_⟩
    have S2 : Sz (.lst [.lst (rows.map rowD), .lst (ns.map .int)]) 3 (2 * (200000 + 2) + 3) := sz_lst fun d hd => by
      rcases List.mem_cons.mp hd with h | hd
      · rw [h]
        refine (sz_lst (n := 1) (c := 11541) fun e he => ?_).up (by decide) ?_
        · obtain ⟨row, hr, rfl⟩ := List.mem_map.mp he
          exact sz_row (hup row hr) (by decide) (n := 6) (by rw [hlen row hr]; exact hm)
        · rw [List.length_map]; omega
      rcases List.mem_cons.mp hd with h | hd
      · rw [h]
        refine (sz_lst (n := 0) (c := 1921) fun e he => ?_).up (by decide) ?_
        · obtain ⟨i, hi, rfl⟩ := List.mem_map.mp he
          have := un i hi
          exact sz_int' (by omega) (by omega)
        · rw [List.length_map]; omega
      · cases hd
    refine ⟨_, rfl, _, rfl, _, rfl, show 2 ≤ sizeLine by decide, S2.shp (by decide), S2.shp (by decide), ?_⟩
    rw [if_neg Bool.false_ne_true, eqd_refl S2]
    exact q
end
end K13
namespace K13
open PySem PySem.Spec PyProof.Rows L2 Pd
section
variable {P : Program} {wd : World} {K : PySem.W.Frag} {mg : Str → Option Value} {base : Heap}
abbrev N_bag : List Str := ["_law_script", "_law_cell"]
theorem sc_bag : FnScope N_bag ["_law_script"] (defScope s_bag) := ⟨rfl, rfl, rfl, by decide +kernel, rfl, by decide +kernel, by decide +kernel⟩
abbrev sp_law : Stmt := topS 24
abbrev Np_law : List Str := ["_law_script", "_law_bag_here", "_law_turn", "_law_things_here", "_law_k"]
theorem scp_law : FnScope Np_law ["_law_script"] (defScope sp_law) := ⟨rfl, rfl, rfl, by decide +kernel, rfl, by decide +kernel, by decide +kernel⟩

theorem ok_bag {f : Addr} {fd : FuncData} (F : Fun K "_law_bag" "_law_bag" s_bag f fd) (ma : mg "abs" = none) : FnG P wd K mg base CX0 1 f fd ["_law_script"] (spBag K) := by
  refine FunG.ok F sc_bag ?_ ?_
  · rintro vs H Q E ⟨a, ns, rfl, _⟩
    rfl
  · rintro cdv A outer s0 H vs Q E hr hG pre
    exact ⟨_, pss_one (ps_ret (pe_lst (pa_cons pe_int (pa_cons pe_int (pa_cons pe_int (pa_cons
      (pe_lc (own := [("_law_cell", 1)]) (g := gName 1) (tt := tYes) rfl sc_bag.nd (pi_list (pe_slice sl_list (pv 0) po_none (po_some pe_int))) (blkOk_by (own := [("_law_cell", 1)]) (N := N_bag) (sc := defScope s_bag) (by decide +kernel))
        (fun _ _ _ _ _ => pg_name (i := 1) sc_bag.nd rfl (Or.inl rfl)) (fun _ _ _ _ _ => pts_nil) (fun _ _ _ _ _ => pe_callB call_abs (by rfl) ma (by decide +kernel) (pa_cons (pv 1) pa_nil)))
      pa_nil)))))), bag_read K vs H Q E pre _ rfl⟩
theorem ok_law {f fB : Addr} {fd fdB : FuncData} (F : Fun K "law" "law" sp_law f fd) (FB : Fun K "_law_bag" "_law_bag" s_bag fB fdB) (gB : mg "_law_bag" = some (.ref fB)) (bB : Binds K fdB ["_law_script"] []) (ma : mg "abs" = none) (T : Txt K mg) :
    FnG P wd K mg base CX0 7 f fd ["_law_script"] (spLaw K) := by
  refine lawG (n := 3) (names := ["_law_turn", "_law_things_here", "_law_k"]) F scp_law rfl rfl ?_
  intro cdv A outer s0 H E hr hG
  refine ⟨_, ps_set (i := 1) scp_law.nd rfl (.inl rfl) (pe_callG (ok_bag FB ma) (hr.mono (by decide)) hG (by rfl) gB FB.kp bB .nil pass0 (pa_cons (pv 0) pa_nil)), fun w => (psd_cons (psd_for (pid_range T.m_range ped_int) (pg_name (i := 2) scp_law.nd rfl (Or.inl rfl)) (gd_name 2) (gName_mo 2)
    (psd_cons (psd_set (i := 3) (ped_f ((ok_things T).up (by decide)) hr hG (pad_cons (ped_var 1) (pad_cons (ped_f ((ok_take T).up (by decide)) hr hG (pad_cons (ped_var 1) (pad_cons ped_int pad_nil))) pad_nil))) scp_law.nd)
    (psd_one (psd_for (pid_range T.m_range ped_int) (pg_name (i := 4) scp_law.nd rfl (Or.inl rfl)) (gd_name 4) (gName_mo 4)
    (psd_one (psd_if (PWd.pt (pwd_or (ptd_not (ptd_val (ped_f ((ok_pair_right T).up (by decide)) hr hG (pad_cons (ped_var 1) (pad_cons (ped_var 3) pad_nil))))) (pwd_or1 (ptd_not (ptd_val (ped_f ((ok_rows_right T).up (by decide)) hr hG (pad_cons (ped_var 1) (pad_cons (ped_f ((ok_take T).up (by decide)) hr hG (pad_cons (ped_var 1) (pad_cons ped_int pad_nil))) pad_nil)))))))) (psd_one (psd_ret ped_bl)) psd_nil))))))
    (psd_one (psd_ret ped_bl))), ?_⟩
  refine ⟨4, rfl, by decide, by decide, ?_⟩
  refine forD_run (fun _ r => ∃ s2 s3 s4, r = [.no, .dat .bag, s2, s3, s4]) ⟨_, _, _, rfl⟩ ?_ ?_
  · rintro r ⟨s2, s3, s4, rfl⟩
    exact rfl
  · rintro i d r nx hd ⟨s2, s3, s4, rfl⟩ k
    refine ⟨_, rfl, _, rfl, _, rfl, by decide, by decide, fun m m0 m1 => ?_⟩
    obtain ⟨m', rfl⟩ := Int.eq_ofNat_of_zero_le m0
    refine ⟨m', rfl, by omega, fun ts h1 h2 h3 => ?_⟩
    refine ⟨4, rfl, by decide, by decide, ?_⟩
    refine forD_run (fun _ r => ∃ s2 s4, r = [.no, .dat .bag, s2, .dat (strsD ts), s4]) ⟨_, _, rfl⟩ ?_ ?_
    · rintro r ⟨s2, s4, rfl⟩
      exact k _ ⟨_, _, _, rfl⟩
    · rintro j d2 r nx2 hd2 ⟨s2, s4, rfl⟩ k2
      refine ⟨_, rfl, _, rfl, ts, rfl, h1, h2, h3, true, rfl, (if_neg (by decide)).mpr ?_⟩
      refine ⟨_, rfl, _, rfl, _, rfl, by decide, by decide, fun n n0 n1 => ?_⟩
      obtain ⟨n', rfl⟩ := Int.eq_ofNat_of_zero_le n0
      exact ⟨n', rfl, by omega, true, rfl, (if_neg (by decide)).mpr (k2 _ ⟨_, _, rfl⟩)⟩
end
end K13
namespace K13
open PySem PySem.Spec PyProof.Rows L2 Pd
theorem all_mk {l : PySem.W.OpenLaw} {w : World} {K : PySem.W.Frag} {h : Heap} {mg : Str → Option Value} {fa fp_row_of fp_added fp_taken fp_times fp_mixture fp_dot fp_is_balanced f_bag f_take f_alike f_one f_things f_sum f_pair f_row f_dot f_mixture f_worths f_worth f_drawn_row f_pair_right f_rows_right fp_law : Addr} (X : K.In h) (G : h.Ns mainGlobals mg) (hfa : mg "law" = some (.ref fa))
    {odp_row_of anp_row_of : Option Addr} {slp_row_of : Array (Option Value)} {ocp_row_of kVp_row_of dcp_row_of pmp_row_of cdp_row_of ctp_row_of : Value}
    {odp_added anp_added : Option Addr} {slp_added : Array (Option Value)} {ocp_added kVp_added dcp_added pmp_added cdp_added ctp_added : Value}
    {odp_taken anp_taken : Option Addr} {slp_taken : Array (Option Value)} {ocp_taken kVp_taken dcp_taken pmp_taken cdp_taken ctp_taken : Value}
    {odp_times anp_times : Option Addr} {slp_times : Array (Option Value)} {ocp_times kVp_times dcp_times pmp_times cdp_times ctp_times : Value}
    {odp_mixture anp_mixture : Option Addr} {slp_mixture : Array (Option Value)} {ocp_mixture kVp_mixture dcp_mixture pmp_mixture cdp_mixture ctp_mixture : Value}
    {odp_dot anp_dot : Option Addr} {slp_dot : Array (Option Value)} {ocp_dot kVp_dot dcp_dot pmp_dot cdp_dot ctp_dot : Value}
    {odp_is_balanced anp_is_balanced : Option Addr} {slp_is_balanced : Array (Option Value)} {ocp_is_balanced kVp_is_balanced dcp_is_balanced pmp_is_balanced cdp_is_balanced ctp_is_balanced : Value}
    {od_bag an_bag : Option Addr} {sl_bag : Array (Option Value)} {oc_bag kV_bag dc_bag pm_bag cd_bag ct_bag : Value}
    {od_take an_take : Option Addr} {sl_take : Array (Option Value)} {oc_take kV_take dc_take pm_take cd_take ct_take : Value}
    {od_alike an_alike : Option Addr} {sl_alike : Array (Option Value)} {oc_alike kV_alike dc_alike pm_alike cd_alike ct_alike : Value}
    {od_one an_one : Option Addr} {sl_one : Array (Option Value)} {oc_one kV_one dc_one pm_one cd_one ct_one : Value}
    {od_things an_things : Option Addr} {sl_things : Array (Option Value)} {oc_things kV_things dc_things pm_things cd_things ct_things : Value}
    {od_sum an_sum : Option Addr} {sl_sum : Array (Option Value)} {oc_sum kV_sum dc_sum pm_sum cd_sum ct_sum : Value}
    {od_pair an_pair : Option Addr} {sl_pair : Array (Option Value)} {oc_pair kV_pair dc_pair pm_pair cd_pair ct_pair : Value}
    {od_row an_row : Option Addr} {sl_row : Array (Option Value)} {oc_row kV_row dc_row pm_row cd_row ct_row : Value}
    {od_dot an_dot : Option Addr} {sl_dot : Array (Option Value)} {oc_dot kV_dot dc_dot pm_dot cd_dot ct_dot : Value}
    {od_mixture an_mixture : Option Addr} {sl_mixture : Array (Option Value)} {oc_mixture kV_mixture dc_mixture pm_mixture cd_mixture ct_mixture : Value}
    {od_worths an_worths : Option Addr} {sl_worths : Array (Option Value)} {oc_worths kV_worths dc_worths pm_worths cd_worths ct_worths : Value}
    {od_worth an_worth : Option Addr} {sl_worth : Array (Option Value)} {oc_worth kV_worth dc_worth pm_worth cd_worth ct_worth : Value}
    {od_drawn_row an_drawn_row : Option Addr} {sl_drawn_row : Array (Option Value)} {oc_drawn_row kV_drawn_row dc_drawn_row pm_drawn_row cd_drawn_row ct_drawn_row : Value}
    {od_pair_right an_pair_right : Option Addr} {sl_pair_right : Array (Option Value)} {oc_pair_right kV_pair_right dc_pair_right pm_pair_right cd_pair_right ct_pair_right : Value}
    {od_rows_right an_rows_right : Option Addr} {sl_rows_right : Array (Option Value)} {oc_rows_right kV_rows_right dc_rows_right pm_rows_right cd_rows_right ct_rows_right : Value}
    {odp_law anp_law : Option Addr} {slp_law : Array (Option Value)} {ocp_law kVp_law dcp_law pmp_law cdp_law ctp_law : Value}
    (ap_row_of : PySem.W.nsIn K mainGlobals "row_of" = some (some (.ref fp_row_of)))
    (lp_row_of : K.lookup fp_row_of = some ⟨ocp_row_of, odp_row_of, .func (PySem.W.fnOf "row_of" "row_of" (defArgs sp_row_of) (defBody sp_row_of) (defScope sp_row_of) .none kVp_row_of dcp_row_of pmp_row_of anp_row_of cdp_row_of ctp_row_of), slp_row_of⟩)
    (cp_row_of : PySem.W.codeIn K cdp_row_of "row_of" = true) (kp_row_of : PySem.W.keepIn K (.ref fp_row_of) = true)
    (ap_added : PySem.W.nsIn K mainGlobals "added" = some (some (.ref fp_added)))
    (lp_added : K.lookup fp_added = some ⟨ocp_added, odp_added, .func (PySem.W.fnOf "added" "added" (defArgs sp_added) (defBody sp_added) (defScope sp_added) .none kVp_added dcp_added pmp_added anp_added cdp_added ctp_added), slp_added⟩)
    (cp_added : PySem.W.codeIn K cdp_added "added" = true) (kp_added : PySem.W.keepIn K (.ref fp_added) = true)
    (ap_taken : PySem.W.nsIn K mainGlobals "taken" = some (some (.ref fp_taken)))
    (lp_taken : K.lookup fp_taken = some ⟨ocp_taken, odp_taken, .func (PySem.W.fnOf "taken" "taken" (defArgs sp_taken) (defBody sp_taken) (defScope sp_taken) .none kVp_taken dcp_taken pmp_taken anp_taken cdp_taken ctp_taken), slp_taken⟩)
    (cp_taken : PySem.W.codeIn K cdp_taken "taken" = true) (kp_taken : PySem.W.keepIn K (.ref fp_taken) = true)
    (ap_times : PySem.W.nsIn K mainGlobals "times" = some (some (.ref fp_times)))
    (lp_times : K.lookup fp_times = some ⟨ocp_times, odp_times, .func (PySem.W.fnOf "times" "times" (defArgs sp_times) (defBody sp_times) (defScope sp_times) .none kVp_times dcp_times pmp_times anp_times cdp_times ctp_times), slp_times⟩)
    (cp_times : PySem.W.codeIn K cdp_times "times" = true) (kp_times : PySem.W.keepIn K (.ref fp_times) = true)
    (ap_mixture : PySem.W.nsIn K mainGlobals "mixture" = some (some (.ref fp_mixture)))
    (lp_mixture : K.lookup fp_mixture = some ⟨ocp_mixture, odp_mixture, .func (PySem.W.fnOf "mixture" "mixture" (defArgs sp_mixture) (defBody sp_mixture) (defScope sp_mixture) .none kVp_mixture dcp_mixture pmp_mixture anp_mixture cdp_mixture ctp_mixture), slp_mixture⟩)
    (cp_mixture : PySem.W.codeIn K cdp_mixture "mixture" = true) (kp_mixture : PySem.W.keepIn K (.ref fp_mixture) = true)
    (ap_dot : PySem.W.nsIn K mainGlobals "dot" = some (some (.ref fp_dot)))
    (lp_dot : K.lookup fp_dot = some ⟨ocp_dot, odp_dot, .func (PySem.W.fnOf "dot" "dot" (defArgs sp_dot) (defBody sp_dot) (defScope sp_dot) .none kVp_dot dcp_dot pmp_dot anp_dot cdp_dot ctp_dot), slp_dot⟩)
    (cp_dot : PySem.W.codeIn K cdp_dot "dot" = true) (kp_dot : PySem.W.keepIn K (.ref fp_dot) = true)
    (ap_is_balanced : PySem.W.nsIn K mainGlobals "is_balanced" = some (some (.ref fp_is_balanced)))
    (lp_is_balanced : K.lookup fp_is_balanced = some ⟨ocp_is_balanced, odp_is_balanced, .func (PySem.W.fnOf "is_balanced" "is_balanced" (defArgs sp_is_balanced) (defBody sp_is_balanced) (defScope sp_is_balanced) .none kVp_is_balanced dcp_is_balanced pmp_is_balanced anp_is_balanced cdp_is_balanced ctp_is_balanced), slp_is_balanced⟩)
    (cp_is_balanced : PySem.W.codeIn K cdp_is_balanced "is_balanced" = true) (kp_is_balanced : PySem.W.keepIn K (.ref fp_is_balanced) = true)
    (a_bag : PySem.W.nsIn K mainGlobals "_law_bag" = some (some (.ref f_bag)))
    (l_bag : K.lookup f_bag = some ⟨oc_bag, od_bag, .func (PySem.W.fnOf "_law_bag" "_law_bag" (defArgs s_bag) (defBody s_bag) (defScope s_bag) .none kV_bag dc_bag pm_bag an_bag cd_bag ct_bag), sl_bag⟩)
    (c_bag : PySem.W.codeIn K cd_bag "_law_bag" = true) (k_bag : PySem.W.keepIn K (.ref f_bag) = true)
    (a_take : PySem.W.nsIn K mainGlobals "_law_take" = some (some (.ref f_take)))
    (l_take : K.lookup f_take = some ⟨oc_take, od_take, .func (PySem.W.fnOf "_law_take" "_law_take" (defArgs s_take) (defBody s_take) (defScope s_take) .none kV_take dc_take pm_take an_take cd_take ct_take), sl_take⟩)
    (c_take : PySem.W.codeIn K cd_take "_law_take" = true) (k_take : PySem.W.keepIn K (.ref f_take) = true)
    (a_alike : PySem.W.nsIn K mainGlobals "_law_alike" = some (some (.ref f_alike)))
    (l_alike : K.lookup f_alike = some ⟨oc_alike, od_alike, .func (PySem.W.fnOf "_law_alike" "_law_alike" (defArgs s_alike) (defBody s_alike) (defScope s_alike) .none kV_alike dc_alike pm_alike an_alike cd_alike ct_alike), sl_alike⟩)
    (c_alike : PySem.W.codeIn K cd_alike "_law_alike" = true) (k_alike : PySem.W.keepIn K (.ref f_alike) = true)
    (a_one : PySem.W.nsIn K mainGlobals "_law_one" = some (some (.ref f_one)))
    (l_one : K.lookup f_one = some ⟨oc_one, od_one, .func (PySem.W.fnOf "_law_one" "_law_one" (defArgs s_one) (defBody s_one) (defScope s_one) .none kV_one dc_one pm_one an_one cd_one ct_one), sl_one⟩)
    (c_one : PySem.W.codeIn K cd_one "_law_one" = true) (k_one : PySem.W.keepIn K (.ref f_one) = true)
    (a_things : PySem.W.nsIn K mainGlobals "_law_things" = some (some (.ref f_things)))
    (l_things : K.lookup f_things = some ⟨oc_things, od_things, .func (PySem.W.fnOf "_law_things" "_law_things" (defArgs s_things) (defBody s_things) (defScope s_things) .none kV_things dc_things pm_things an_things cd_things ct_things), sl_things⟩)
    (c_things : PySem.W.codeIn K cd_things "_law_things" = true) (k_things : PySem.W.keepIn K (.ref f_things) = true)
    (a_sum : PySem.W.nsIn K mainGlobals "_law_sum" = some (some (.ref f_sum)))
    (l_sum : K.lookup f_sum = some ⟨oc_sum, od_sum, .func (PySem.W.fnOf "_law_sum" "_law_sum" (defArgs s_sum) (defBody s_sum) (defScope s_sum) .none kV_sum dc_sum pm_sum an_sum cd_sum ct_sum), sl_sum⟩)
    (c_sum : PySem.W.codeIn K cd_sum "_law_sum" = true) (k_sum : PySem.W.keepIn K (.ref f_sum) = true)
    (a_pair : PySem.W.nsIn K mainGlobals "_law_pair" = some (some (.ref f_pair)))
    (l_pair : K.lookup f_pair = some ⟨oc_pair, od_pair, .func (PySem.W.fnOf "_law_pair" "_law_pair" (defArgs s_pair) (defBody s_pair) (defScope s_pair) .none kV_pair dc_pair pm_pair an_pair cd_pair ct_pair), sl_pair⟩)
    (c_pair : PySem.W.codeIn K cd_pair "_law_pair" = true) (k_pair : PySem.W.keepIn K (.ref f_pair) = true)
    (a_row : PySem.W.nsIn K mainGlobals "_law_row" = some (some (.ref f_row)))
    (l_row : K.lookup f_row = some ⟨oc_row, od_row, .func (PySem.W.fnOf "_law_row" "_law_row" (defArgs s_row) (defBody s_row) (defScope s_row) .none kV_row dc_row pm_row an_row cd_row ct_row), sl_row⟩)
    (c_row : PySem.W.codeIn K cd_row "_law_row" = true) (k_row : PySem.W.keepIn K (.ref f_row) = true)
    (a_dot : PySem.W.nsIn K mainGlobals "_law_dot" = some (some (.ref f_dot)))
    (l_dot : K.lookup f_dot = some ⟨oc_dot, od_dot, .func (PySem.W.fnOf "_law_dot" "_law_dot" (defArgs s_dot) (defBody s_dot) (defScope s_dot) .none kV_dot dc_dot pm_dot an_dot cd_dot ct_dot), sl_dot⟩)
    (c_dot : PySem.W.codeIn K cd_dot "_law_dot" = true) (k_dot : PySem.W.keepIn K (.ref f_dot) = true)
    (a_mixture : PySem.W.nsIn K mainGlobals "_law_mixture" = some (some (.ref f_mixture)))
    (l_mixture : K.lookup f_mixture = some ⟨oc_mixture, od_mixture, .func (PySem.W.fnOf "_law_mixture" "_law_mixture" (defArgs s_mixture) (defBody s_mixture) (defScope s_mixture) .none kV_mixture dc_mixture pm_mixture an_mixture cd_mixture ct_mixture), sl_mixture⟩)
    (c_mixture : PySem.W.codeIn K cd_mixture "_law_mixture" = true) (k_mixture : PySem.W.keepIn K (.ref f_mixture) = true)
    (a_worths : PySem.W.nsIn K mainGlobals "_law_worths" = some (some (.ref f_worths)))
    (l_worths : K.lookup f_worths = some ⟨oc_worths, od_worths, .func (PySem.W.fnOf "_law_worths" "_law_worths" (defArgs s_worths) (defBody s_worths) (defScope s_worths) .none kV_worths dc_worths pm_worths an_worths cd_worths ct_worths), sl_worths⟩)
    (c_worths : PySem.W.codeIn K cd_worths "_law_worths" = true) (k_worths : PySem.W.keepIn K (.ref f_worths) = true)
    (a_worth : PySem.W.nsIn K mainGlobals "_law_worth" = some (some (.ref f_worth)))
    (l_worth : K.lookup f_worth = some ⟨oc_worth, od_worth, .func (PySem.W.fnOf "_law_worth" "_law_worth" (defArgs s_worth) (defBody s_worth) (defScope s_worth) .none kV_worth dc_worth pm_worth an_worth cd_worth ct_worth), sl_worth⟩)
    (c_worth : PySem.W.codeIn K cd_worth "_law_worth" = true) (k_worth : PySem.W.keepIn K (.ref f_worth) = true)
    (a_drawn_row : PySem.W.nsIn K mainGlobals "_law_drawn_row" = some (some (.ref f_drawn_row)))
    (l_drawn_row : K.lookup f_drawn_row = some ⟨oc_drawn_row, od_drawn_row, .func (PySem.W.fnOf "_law_drawn_row" "_law_drawn_row" (defArgs s_drawn_row) (defBody s_drawn_row) (defScope s_drawn_row) .none kV_drawn_row dc_drawn_row pm_drawn_row an_drawn_row cd_drawn_row ct_drawn_row), sl_drawn_row⟩)
    (c_drawn_row : PySem.W.codeIn K cd_drawn_row "_law_drawn_row" = true) (k_drawn_row : PySem.W.keepIn K (.ref f_drawn_row) = true)
    (a_pair_right : PySem.W.nsIn K mainGlobals "_law_pair_right" = some (some (.ref f_pair_right)))
    (l_pair_right : K.lookup f_pair_right = some ⟨oc_pair_right, od_pair_right, .func (PySem.W.fnOf "_law_pair_right" "_law_pair_right" (defArgs s_pair_right) (defBody s_pair_right) (defScope s_pair_right) .none kV_pair_right dc_pair_right pm_pair_right an_pair_right cd_pair_right ct_pair_right), sl_pair_right⟩)
    (c_pair_right : PySem.W.codeIn K cd_pair_right "_law_pair_right" = true) (k_pair_right : PySem.W.keepIn K (.ref f_pair_right) = true)
    (a_rows_right : PySem.W.nsIn K mainGlobals "_law_rows_right" = some (some (.ref f_rows_right)))
    (l_rows_right : K.lookup f_rows_right = some ⟨oc_rows_right, od_rows_right, .func (PySem.W.fnOf "_law_rows_right" "_law_rows_right" (defArgs s_rows_right) (defBody s_rows_right) (defScope s_rows_right) .none kV_rows_right dc_rows_right pm_rows_right an_rows_right cd_rows_right ct_rows_right), sl_rows_right⟩)
    (c_rows_right : PySem.W.codeIn K cd_rows_right "_law_rows_right" = true) (k_rows_right : PySem.W.keepIn K (.ref f_rows_right) = true)
    (ap_law : PySem.W.nsIn K mainGlobals "law" = some (some (.ref fp_law)))
    (lp_law : K.lookup fp_law = some ⟨ocp_law, odp_law, .func (PySem.W.fnOf "law" "law" (defArgs sp_law) (defBody sp_law) (defScope sp_law) .none kVp_law dcp_law pmp_law anp_law cdp_law ctp_law), slp_law⟩)
    (cp_law : PySem.W.codeIn K cdp_law "law" = true) (kp_law : PySem.W.keepIn K (.ref fp_law) = true)
    (z_len : PySem.W.nsIn K mainGlobals "len" = some none)
    (z_int : PySem.W.nsIn K mainGlobals "int" = some none)
    (z_dict : PySem.W.nsIn K mainGlobals "dict" = some none)
    (z_list : PySem.W.nsIn K mainGlobals "list" = some none)
    (z_range : PySem.W.nsIn K mainGlobals "range" = some none)
    (z_repr : PySem.W.nsIn K mainGlobals "repr" = some none)
    (z_sorted : PySem.W.nsIn K mainGlobals "sorted" = some none)
    (z_sum : PySem.W.nsIn K mainGlobals "sum" = some none)
    (z_tuple : PySem.W.nsIn K mainGlobals "tuple" = some none)
    (z_zip : PySem.W.nsIn K mainGlobals "zip" = some none)
    (z_abs : PySem.W.nsIn K mainGlobals "abs" = some none)
    : ∃ fd : FuncData, (∀ (s : Shared) (v : Value), BindsTo s fd ⟨[v], []⟩ [("_law_script", v)]) ∧ ∀ base : Heap, K.In base → base.Ns mainGlobals mg → FnG l.prog w K mg base CX0 7 fa fd ["_law_script"] (spLaw K) := by
  have e := hfa.symm.trans (PySem.W.mg_of X G ap_law)
  cases e
  have FL := fun_mk (st := sp_law) lp_law cp_law kp_law
  have FB := fun_mk (st := s_bag) l_bag c_bag k_bag
  have bB := FB.binds (ps := ["_law_script"]) fun _ _ _ _ _ _ us hl => match us, hl with | [_], _ => rfl
  have T : Txt K mg := by
    constructor
    · exact defAt_mk X G a_take l_take c_take k_take fun _ _ _ _ _ _ us hl => match us, hl with | [_, _], _ => rfl
    · exact defAt_mk X G ap_row_of lp_row_of cp_row_of kp_row_of fun _ _ _ _ _ _ us hl => match us, hl with | [_, _], _ => rfl
    · exact defAt_mk X G ap_added lp_added cp_added kp_added fun _ _ _ _ _ _ us hl => match us, hl with | [_, _], _ => rfl
    · exact defAt_mk X G ap_taken lp_taken cp_taken kp_taken fun _ _ _ _ _ _ us hl => match us, hl with | [_, _], _ => rfl
    · exact defAt_mk X G ap_times lp_times cp_times kp_times fun _ _ _ _ _ _ us hl => match us, hl with | [_, _], _ => rfl
    · exact defAt_mk X G ap_mixture lp_mixture cp_mixture kp_mixture fun _ _ _ _ _ _ us hl => match us, hl with | [_, _, _], _ => rfl
    · exact defAt_mk X G ap_dot lp_dot cp_dot kp_dot fun _ _ _ _ _ _ us hl => match us, hl with | [_, _], _ => rfl
    · exact defAt_mk X G ap_is_balanced lp_is_balanced cp_is_balanced kp_is_balanced fun _ _ _ _ _ _ us hl => match us, hl with | [_], _ => rfl
    · exact defAt_mk X G a_alike l_alike c_alike k_alike fun _ _ _ _ _ _ us hl => match us, hl with | [_, _], _ => rfl
    · exact defAt_mk X G a_one l_one c_one k_one fun _ _ _ _ _ _ us hl => match us, hl with | [_, _], _ => rfl
    · exact defAt_mk X G a_things l_things c_things k_things fun _ _ _ _ _ _ us hl => match us, hl with | [_, _], _ => rfl
    · exact defAt_mk X G a_sum l_sum c_sum k_sum fun _ _ _ _ _ _ us hl => match us, hl with | [_, _, _], _ => rfl
    · exact defAt_mk X G a_pair l_pair c_pair k_pair fun _ _ _ _ _ _ us hl => match us, hl with | [_, _], _ => rfl
    · exact defAt_mk X G a_row l_row c_row k_row fun _ _ _ _ _ _ us hl => match us, hl with | [_, _], _ => rfl
    · exact defAt_mk X G a_dot l_dot c_dot k_dot fun _ _ _ _ _ _ us hl => match us, hl with | [_, _], _ => rfl
    · exact defAt_mk X G a_mixture l_mixture c_mixture k_mixture fun _ _ _ _ _ _ us hl => match us, hl with | [_, _, _], _ => rfl
    · exact defAt_mk X G a_worths l_worths c_worths k_worths fun _ _ _ _ _ _ us hl => match us, hl with | [_, _, _, _], _ => rfl
    · exact defAt_mk X G a_worth l_worth c_worth k_worth fun _ _ _ _ _ _ us hl => match us, hl with | [_, _], _ => rfl
    · exact defAt_mk X G a_drawn_row l_drawn_row c_drawn_row k_drawn_row fun _ _ _ _ _ _ us hl => match us, hl with | [_, _], _ => rfl
    · exact defAt_mk X G a_pair_right l_pair_right c_pair_right k_pair_right fun _ _ _ _ _ _ us hl => match us, hl with | [_, _], _ => rfl
    · exact defAt_mk X G a_rows_right l_rows_right c_rows_right k_rows_right fun _ _ _ _ _ _ us hl => match us, hl with | [_, _], _ => rfl
    · exact PySem.W.mg_none_of X G z_len
    · exact PySem.W.mg_none_of X G z_int
    · exact PySem.W.mg_none_of X G z_dict
    · exact PySem.W.mg_none_of X G z_list
    · exact PySem.W.mg_none_of X G z_range
    · exact PySem.W.mg_none_of X G z_repr
    · exact PySem.W.mg_none_of X G z_sorted
    · exact PySem.W.mg_none_of X G z_sum
    · exact PySem.W.mg_none_of X G z_tuple
    · exact PySem.W.mg_none_of X G z_zip
  exact ⟨_, fun s v => .of_eq rfl, fun base _ _ => ok_law FL FB (PySem.W.mg_of X G a_bag) bB (PySem.W.mg_none_of X G z_abs) T⟩
end K13
open PySem PySem.W PyProof.Rows
set_option maxHeartbeats 0 in
theorem PySem.Challenge.cw_asmuchas_k13_rows_reckoned_holds : PySem.Challenge.rw_asmuchas_k13_rows_reckoned.Holds := by
  w_on; o_law; k_head; (case hw => w_witness2)
  k_fill
  refine Pd.top_walk (l := PySem.Challenge.rw_asmuchas_k13_rows_reckoned) (n := 63) (k := 7) (x := "_law_script") (sp := fun w => Pd.spLaw _) rfl (by decide) rfl ⟨rfl, by decide, by decide⟩ (fun w h Y => PySem.W.kIn_of Y) ?F (fun _ _ a ns hl hS => ⟨a, ns, rfl, hS, hl, fun _ => rfl⟩)
  case F =>
    intro w mg fa h KX G hmg
    refine' K13.all_mk KX G hmg ?ap_row_of ?lp_row_of ?cp_row_of ?kp_row_of ?ap_added ?lp_added ?cp_added ?kp_added ?ap_taken ?lp_taken ?cp_taken ?kp_taken ?ap_times ?lp_times ?cp_times ?kp_times ?ap_mixture ?lp_mixture ?cp_mixture ?kp_mixture ?ap_dot ?lp_dot ?cp_dot ?kp_dot ?ap_is_balanced ?lp_is_balanced ?cp_is_balanced ?kp_is_balanced ?a_bag ?l_bag ?c_bag ?k_bag ?a_take ?l_take ?c_take ?k_take ?a_alike ?l_alike ?c_alike ?k_alike ?a_one ?l_one ?c_one ?k_one ?a_things ?l_things ?c_things ?k_things ?a_sum ?l_sum ?c_sum ?k_sum ?a_pair ?l_pair ?c_pair ?k_pair ?a_row ?l_row ?c_row ?k_row ?a_dot ?l_dot ?c_dot ?k_dot ?a_mixture ?l_mixture ?c_mixture ?k_mixture ?a_worths ?l_worths ?c_worths ?k_worths ?a_worth ?l_worth ?c_worth ?k_worth ?a_drawn_row ?l_drawn_row ?c_drawn_row ?k_drawn_row ?a_pair_right ?l_pair_right ?c_pair_right ?k_pair_right ?a_rows_right ?l_rows_right ?c_rows_right ?k_rows_right ?ap_law ?lp_law ?cp_law ?kp_law ?z_len ?z_int ?z_dict ?z_list ?z_range ?z_repr ?z_sorted ?z_sum ?z_tuple ?z_zip ?z_abs
    (case ap_row_of => k_is)
    (case lp_row_of => k_is)
    (case cp_row_of => k_is)
    (case kp_row_of => k_is)
    (case ap_added => k_is)
    (case lp_added => k_is)
    (case cp_added => k_is)
    (case kp_added => k_is)
    (case ap_taken => k_is)
    (case lp_taken => k_is)
    (case cp_taken => k_is)
    (case kp_taken => k_is)
    (case ap_times => k_is)
    (case lp_times => k_is)
    (case cp_times => k_is)
    (case kp_times => k_is)
    (case ap_mixture => k_is)
    (case lp_mixture => k_is)
    (case cp_mixture => k_is)
    (case kp_mixture => k_is)
    (case ap_dot => k_is)
    (case lp_dot => k_is)
    (case cp_dot => k_is)
    (case kp_dot => k_is)
    (case ap_is_balanced => k_is)
    (case lp_is_balanced => k_is)
    (case cp_is_balanced => k_is)
    (case kp_is_balanced => k_is)
    (case a_bag => k_is)
    (case l_bag => k_is)
    (case c_bag => k_is)
    (case k_bag => k_is)
    (case a_take => k_is)
    (case l_take => k_is)
    (case c_take => k_is)
    (case k_take => k_is)
    (case a_alike => k_is)
    (case l_alike => k_is)
    (case c_alike => k_is)
    (case k_alike => k_is)
    (case a_one => k_is)
    (case l_one => k_is)
    (case c_one => k_is)
    (case k_one => k_is)
    (case a_things => k_is)
    (case l_things => k_is)
    (case c_things => k_is)
    (case k_things => k_is)
    (case a_sum => k_is)
    (case l_sum => k_is)
    (case c_sum => k_is)
    (case k_sum => k_is)
    (case a_pair => k_is)
    (case l_pair => k_is)
    (case c_pair => k_is)
    (case k_pair => k_is)
    (case a_row => k_is)
    (case l_row => k_is)
    (case c_row => k_is)
    (case k_row => k_is)
    (case a_dot => k_is)
    (case l_dot => k_is)
    (case c_dot => k_is)
    (case k_dot => k_is)
    (case a_mixture => k_is)
    (case l_mixture => k_is)
    (case c_mixture => k_is)
    (case k_mixture => k_is)
    (case a_worths => k_is)
    (case l_worths => k_is)
    (case c_worths => k_is)
    (case k_worths => k_is)
    (case a_worth => k_is)
    (case l_worth => k_is)
    (case c_worth => k_is)
    (case k_worth => k_is)
    (case a_drawn_row => k_is)
    (case l_drawn_row => k_is)
    (case c_drawn_row => k_is)
    (case k_drawn_row => k_is)
    (case a_pair_right => k_is)
    (case l_pair_right => k_is)
    (case c_pair_right => k_is)
    (case k_pair_right => k_is)
    (case a_rows_right => k_is)
    (case l_rows_right => k_is)
    (case c_rows_right => k_is)
    (case k_rows_right => k_is)
    (case ap_law => k_is)
    (case lp_law => k_is)
    (case cp_law => k_is)
    (case kp_law => k_is)
    (case z_len => k_is)
    (case z_int => k_is)
    (case z_dict => k_is)
    (case z_list => k_is)
    (case z_range => k_is)
    (case z_repr => k_is)
    (case z_sorted => k_is)
    (case z_sum => k_is)
    (case z_tuple => k_is)
    (case z_zip => k_is)
    (case z_abs => k_is)
