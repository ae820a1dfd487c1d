import PyProof.Rows.All
import Wide.All
import OpenK.AllK
import Wide.FinOn
import HandS.ForMost
import HandS.ForExc
import HandS.Deep
import HandS.TupAny
import HandS.TupMul
import HandS.TupLe
import HandS.Wide
import HandS.IsInst
import HandS.SortInts
import KE.DataEq
import HandS.Style
import HandS.Conv
import HandS.TupSets
import HandS.Flow
import HandS.TryOnly
import HandS.Zip
import HandS.CallSlots
import HandS.ExcInit
import KE.KExcInit
import HandS.ExcIs
import HandS.ExcField
import HandS.ExcValue
import KE.KExcIs
import HandS.Defaults
import HandS.Iter
import KE.GoesEnumKw
import HandS.WordsExc
import HandS.Codes
import PySem.Challenge.RW_regroups_k01_reaches_and_starts
set_option Elab.async false
set_option linter.all false
/-! E1: plain data, what of the heap bears it, the frame's slots with who owns which list. -/
namespace L3
open PySem L2
abbrev Frag := PySem.W.Frag

/-- data: what a value is worth; fls: a list that is only read (the script); err, obj: an error, an object of a class of the program by its name, its attributes -/
inductive D where
  | non | bl (b : Bool) | int (i : Int) | str (x : Str) | tup (ds : List D) | lst (ds : List D) | fls (ds : List D)
  | err (nm : Str) (ns : List Str) (ds : List D) | obj (nm : Str) (ns : List Str) (ds : List D)
instance : Inhabited D := ⟨.non⟩

/-- a tuple, a list at a, not among those that are owned (O) -/
def KT (K : Frag) (a : Addr) (xs : List V) : Prop := ∃ (o : Obj) (its : Array Value) (n : Nat), K.lookup a = some o ∧ o.cls = .type "tuple" ∧ o.data = .seq its n ∧ its.size ≤ sizeLine ∧ Vals xs its.toList
def KL (K : Frag) (a : Addr) (xs : List V) : Prop := ∃ (o : Obj) (its : Array Value) (n : Nat), K.lookup a = some o ∧ o.cls = .type "list" ∧ o.dict = none ∧ o.data = .seq its n ∧ its.size ≤ sizeLine ∧ Vals xs its.toList
def TAt (O : Addr → Prop) (K : Frag) (H : Hp) (a : Addr) (xs : List V) : Prop := (¬ O a ∧ Rd H a (.tup xs)) ∨ KT K a xs
def LAt (O : Addr → Prop) (K : Frag) (H : Hp) (a : Addr) (xs : List V) : Prop := (¬ O a ∧ Rd H a (.lst xs)) ∨ KL K a xs
theorem TAt.sq {O K H a xs} (h : TAt O K H a xs) : SqT K H a xs := h.elim (fun h => .inl h.2) .inr
theorem LAt.sq {O K H a xs} (h : LAt O K H a xs) : SqL K H a xs := h.elim (fun h => .inl h.2) .inr

/-- the class of this name -/
def exCls (K : Frag) (nm : Str) : Option Addr := match PySem.W.nsIn K mainGlobals nm with
  | some (some (.ref C)) => some C
  | _ => none
/-- an error that was caught or made, at a -/
def exoV (a C : Addr) (d : Option Addr) : HO := .ext fun h => ∃ (oe : Obj) (vs : Array Value), h.get? a = some oe ∧ Zc (.ref C) d oe ∧ oe.data = .fields vs
def ErT (O : Addr → Prop) (K : Frag) (H : Hp) (a : Addr) (nm : Str) (ns : List Str) (xs : List V) : Prop :=
  ∃ C d, exCls K nm = some C ∧ ¬ O a ∧ H a = some (exoV a C d) ∧ xs.length = ns.length ∧ ((ns = [] ∧ d = none) ∨ ∃ da, d = some da ∧ ¬ O da ∧ H da = some (.xd (ns.zip xs)))
def ObT (O : Addr → Prop) (K : Frag) (H : Hp) (a : Addr) (nm : Str) (ns : List Str) (xs : List V) : Prop :=
  ∃ C dx, exCls K nm = some C ∧ ¬ O a ∧ H a = some (.ins C dx (ns.zip xs)) ∧ xs.length = ns.length
mutual
inductive Rep (O : Addr → Prop) (K : Frag) (H : Hp) : V → D → Prop
  | non : Rep O K H .non .non
  | bl (b : Bool) : Rep O K H (.bl b) (.bl b)
  | int (i : Int) : Rep O K H (.int i) (.int i)
  | str (x : Str) : Rep O K H (.str x) (.str x)
  | tup {a : Addr} {xs : List V} {ds : List D} : TAt O K H a xs → Reps O K H xs ds → Rep O K H (.ref a) (.tup ds)
  | lst {a : Addr} {xs : List V} {ds : List D} : ¬ O a → H a = some (.lst xs) → Reps O K H xs ds → Rep O K H (.ref a) (.lst ds)
  | fls {a : Addr} {xs : List V} {ds : List D} : LAt O K H a xs → Reps O K H xs ds → Rep O K H (.ref a) (.fls ds)
  | err {a : Addr} {nm : Str} {ns : List Str} {xs : List V} {ds : List D} : ErT O K H a nm ns xs → Reps O K H xs ds → Rep O K H (.ref a) (.err nm ns ds)
  | obj {a : Addr} {nm : Str} {ns : List Str} {xs : List V} {ds : List D} : ObT O K H a nm ns xs → Reps O K H xs ds → Rep O K H (.ref a) (.obj nm ns ds)
inductive Reps (O : Addr → Prop) (K : Frag) (H : Hp) : List V → List D → Prop
  | nil : Reps O K H [] []
  | cons {x : V} {xs : List V} {d : D} {ds : List D} : Rep O K H x d → Reps O K H xs ds → Reps O K H (x :: xs) (d :: ds)
end

/-- what is not owned stays, and stays not owned -/
def Keep (O : Addr → Prop) (H : Hp) (O' : Addr → Prop) (H' : Hp) : Prop := ∀ a, ¬ O a → H a ≠ none → ¬ O' a ∧ H' a = H a
theorem rdKeep {H H' : Hp} {a : Addr} {u : HO} (h : Rd H a u) (e : H' a = H a) : Rd H' a u := by
  rcases h with h | ⟨o, h⟩
  · exact .inl (e.trans h)
  · exact .inr ⟨o, e.trans h⟩
theorem rdNe {H : Hp} {a : Addr} {u : HO} (h : Rd H a u) : H a ≠ none := by
  rcases h with h | ⟨o, h⟩ <;> rw [h] <;> exact fun z => nomatch z
theorem TAt.keep {O O' K H H' a xs} (h : TAt O K H a xs) (k : Keep O H O' H') : TAt O' K H' a xs := by
  rcases h with ⟨h, r⟩ | h
  · obtain ⟨h1, h2⟩ := k a h (rdNe r)
    exact .inl ⟨h1, rdKeep r h2⟩
  · exact .inr h
theorem LAt.keep {O O' K H H' a xs} (h : LAt O K H a xs) (k : Keep O H O' H') : LAt O' K H' a xs := by
  rcases h with ⟨h, r⟩ | h
  · obtain ⟨h1, h2⟩ := k a h (rdNe r)
    exact .inl ⟨h1, rdKeep r h2⟩
  · exact .inr h
theorem ErT.keep {O O' K H H' a nm ns xs} (h : ErT O K H a nm ns xs) (k : Keep O H O' H') : ErT O' K H' a nm ns xs := by
  obtain ⟨C, d, h1, h2, h3, h4, h5⟩ := h
  obtain ⟨k1, k2⟩ := k a h2 (by rw [h3]; exact fun z => nomatch z)
  refine ⟨C, d, h1, k1, k2.trans h3, h4, ?_⟩
  rcases h5 with h5 | ⟨da, e, g1, g2⟩
  · exact .inl h5
  · obtain ⟨k3, k4⟩ := k da g1 (by rw [g2]; exact fun z => nomatch z)
    exact .inr ⟨da, e, k3, k4.trans g2⟩
theorem ObT.keep {O O' K H H' a nm ns xs} (h : ObT O K H a nm ns xs) (k : Keep O H O' H') : ObT O' K H' a nm ns xs := by
  obtain ⟨C, d, h1, h2, h3, h4⟩ := h
  obtain ⟨k1, k2⟩ := k a h2 (by rw [h3]; exact fun z => nomatch z)
  exact ⟨C, d, h1, k1, k2.trans h3, h4⟩
section
variable {O O' : Addr → Prop} {K : Frag} {H H' : Hp}
mutual
theorem Rep.keep (k : Keep O H O' H') : ∀ (d : D) (x : V), Rep O K H x d → Rep O' K H' x d
  | .non, _, h => by cases h; exact .non
  | .bl b, _, h => by cases h; exact .bl _
  | .int b, _, h => by cases h; exact .int _
  | .str b, _, h => by cases h; exact .str _
  | .tup ds, _, h => by
    cases h with
    | tup t r => exact .tup (t.keep k) (Reps.keep k ds _ r)
  | .lst ds, _, h => by
    cases h with
    | lst n t r =>
      obtain ⟨h1, h2⟩ := k _ n (by rw [t]; exact fun z => nomatch z)
      exact .lst h1 (h2.trans t) (Reps.keep k ds _ r)
  | .fls ds, _, h => by
    cases h with
    | fls t r => exact .fls (t.keep k) (Reps.keep k ds _ r)
  | .err _ _ ds, _, h => by
    cases h with
    | err t r => exact .err (t.keep k) (Reps.keep k ds _ r)
  | .obj _ _ ds, _, h => by
    cases h with
    | obj t r => exact .obj (t.keep k) (Reps.keep k ds _ r)
theorem Reps.keep (k : Keep O H O' H') : ∀ (ds : List D) (xs : List V), Reps O K H xs ds → Reps O' K H' xs ds
  | [], _, h => by cases h; exact .nil
  | d :: ds, _, h => by
    cases h with
    | cons r rs => exact .cons (Rep.keep k d _ r) (Reps.keep k ds _ rs)
end
theorem Keep.refl : Keep O H O H := fun _ h _ => ⟨h, rfl⟩
theorem Keep.trans {O'' : Addr → Prop} {H'' : Hp} (a : Keep O H O' H') (b : Keep O' H' O'' H'') : Keep O H O'' H'' := fun x h n => by
  obtain ⟨h1, h2⟩ := a x h n
  obtain ⟨h3, h4⟩ := b x h1 (by rw [h2]; exact n)
  exact ⟨h3, h4.trans h2⟩
theorem Keep.less (h : ∀ a, O' a → O a) : Keep O H O' H := fun a n _ => ⟨fun z => n (h a z), rfl⟩
/-- a new object -/
theorem Keep.new {p : Addr} {u : HO} (hp : H p = none) : Keep O H O (upd H p u) := fun a n h => ⟨n, upd_ne fun z => h (z ▸ hp)⟩
/-- .. that is owned -/
theorem Keep.newOwn {p : Addr} {u : HO} (hp : H p = none) : Keep O H (fun a => O a ∨ a = p) (upd H p u) := fun a n h => ⟨fun z => z.elim n fun e => h (e ▸ hp), upd_ne fun z => h (z ▸ hp)⟩
theorem Reps.length : ∀ {ds : List D} {xs : List V}, Reps O K H xs ds → xs.length = ds.length
  | [], _, h => by cases h; rfl
  | d :: ds, _, h => by
    cases h with
    | cons r rs => simp [Reps.length rs]
theorem Reps.app : ∀ {ds : List D} {xs : List V} {es : List D} {ys : List V}, Reps O K H xs ds → Reps O K H ys es → Reps O K H (xs ++ ys) (ds ++ es)
  | [], _, _, _, h, g => by cases h; exact g
  | d :: ds, _, _, _, h, g => by
    cases h with
    | cons r rs => exact .cons r (Reps.app rs g)
theorem Reps.get : ∀ {ds : List D} {xs : List V} {i : Nat} {d : D}, Reps O K H xs ds → ds[i]? = some d → ∃ x, xs[i]? = some x ∧ Rep O K H x d
  | [], _, _, _, h, e => by simp at e
  | d :: ds, _, 0, _, h, e => by
    cases h with
    | cons r rs => simp at e; subst e; exact ⟨_, rfl, r⟩
  | d :: ds, _, i + 1, _, h, e => by
    cases h with
    | cons r rs =>
      obtain ⟨x, h1, h2⟩ := Reps.get (i := i) rs (by simpa using e)
      exact ⟨x, by simpa using h1, h2⟩
theorem Reps.get' : ∀ {ds : List D} {xs : List V} {i : Nat} {x : V}, Reps O K H xs ds → xs[i]? = some x → ∃ d, ds[i]? = some d ∧ Rep O K H x d
  | [], _, _, _, h, e => by cases h; simp at e
  | d :: ds, _, 0, _, h, e => by
    cases h with
    | cons r rs => simp at e; subst e; exact ⟨_, rfl, r⟩
  | d :: ds, _, i + 1, _, h, e => by
    cases h with
    | cons r rs =>
      obtain ⟨x, h1, h2⟩ := Reps.get' (i := i) rs (by simpa using e)
      exact ⟨x, by simpa using h1, h2⟩
theorem Reps.set {x : V} {d : D} (r : Rep O K H x d) : ∀ {ds : List D} {xs : List V} (i : Nat), Reps O K H xs ds → Reps O K H (xs.set i x) (ds.set i d)
  | [], _, _, h => by cases h; exact .nil
  | d :: ds, _, 0, h => by
    cases h with
    | cons q rs => exact .cons r rs
  | d :: ds, _, i + 1, h => by
    cases h with
    | cons q rs => exact .cons q (Reps.set r i rs)
theorem Reps.take : ∀ {ds : List D} {xs : List V} (n : Nat), Reps O K H xs ds → Reps O K H (xs.take n) (ds.take n)
  | [], _, _, h => by cases h; simp; exact .nil
  | d :: ds, _, 0, h => by simp; exact .nil
  | d :: ds, _, i + 1, h => by
    cases h with
    | cons q rs => exact .cons q (Reps.take i rs)
theorem Reps.drop : ∀ {ds : List D} {xs : List V} (n : Nat), Reps O K H xs ds → Reps O K H (xs.drop n) (ds.drop n)
  | [], _, _, h => by cases h; simp; exact .nil
  | d :: ds, _, 0, h => h
  | d :: ds, _, i + 1, h => by
    cases h with
    | cons q rs => exact Reps.drop i rs
theorem Reps.rev : ∀ {ds : List D} {xs : List V}, Reps O K H xs ds → Reps O K H xs.reverse ds.reverse
  | [], _, h => by cases h; exact .nil
  | d :: ds, _, h => by
    cases h with
    | cons q rs => simp only [List.reverse_cons]; exact Reps.app (Reps.rev rs) (.cons q .nil)
theorem Reps.one {x : V} {d : D} (r : Rep O K H x d) : Reps O K H [x] [d] := .cons r .nil
theorem Reps.ints : ∀ (ns : List Int), Reps O K H (ns.map V.int) (ns.map D.int)
  | [] => .nil
  | n :: ns => .cons (.int n) (Reps.ints ns)
end

/-! ### the frame's slots -/
/-- a slot: nothing known; a value; a list of one's own: k = 0 made here, 1 lent by the caller, 2, 3 the same while a loop walks it -/
inductive Slot where
  | unk | v (d : D) | own (k : Nat) (ds : List D)
instance : Inhabited Slot := ⟨.unk⟩
abbrev Sls := List Slot
def OwnAt (σ : St) (ρ : Sls) (i : Nat) (a : Addr) : Prop := (∃ (k : Nat) (ds : List D), ρ[i]? = some (.own k ds)) ∧ σ[i]? = some (some (.ref a))
def Ow (O : Addr → Prop) (σ : St) (ρ : Sls) (a : Addr) : Prop := O a ∨ ∃ i, OwnAt σ ρ i a
structure EnvR (O : Addr → Prop) (K : Frag) (σ : St) (H : Hp) (ρ : Sls) : Prop where
  len : σ.length = ρ.length
  val : ∀ (i : Nat) (d : D), ρ[i]? = some (Slot.v d) → ∃ x, σ[i]? = some (some x) ∧ Rep (Ow O σ ρ) K H x d
  own : ∀ (i k : Nat) (ds : List D), ρ[i]? = some (Slot.own k ds) → ∃ (a : Addr) (xs : List V), σ[i]? = some (some (.ref a)) ∧ H a = some (.lst xs) ∧ Reps (Ow O σ ρ) K H xs ds ∧ ¬ O a
  inj : ∀ i j a, OwnAt σ ρ i a → OwnAt σ ρ j a → i = j
  out : ∀ a, O a → H a ≠ none
structure Ext (σ : St) (ρ : Sls) (H : Hp) (σ' : St) (ρ' : Sls) (H' : Hp) : Prop where
  keep : ∀ a, H a ≠ none → (∀ i, ¬ OwnAt σ ρ i a) → H' a = H a
  grow : ∀ i a, OwnAt σ' ρ' i a → (∃ j, OwnAt σ ρ j a) ∨ H a = none
  trk : ∀ a, H a ≠ none → H' a ≠ none
  lck : ∀ (i k : Nat) (ds : List D), 2 ≤ k → ρ[i]? = some (Slot.own k ds) → ρ'[i]? = some (Slot.own k ds) ∧ σ'[i]? = σ[i]?
  bor : ∀ (i k : Nat) (ds : List D), 1 ≤ k → ρ[i]? = some (Slot.own k ds) → (∃ ds' : List D, ρ'[i]? = some (Slot.own k ds')) ∧ σ'[i]? = σ[i]?
theorem Ext.refl {σ ρ H} : Ext σ ρ H σ ρ H := ⟨fun _ _ _ => rfl, fun i _ h => .inl ⟨i, h⟩, fun _ h => h, fun _ _ _ _ h => ⟨h, rfl⟩, fun _ _ ds _ h => ⟨⟨ds, h⟩, rfl⟩⟩
theorem Ext.trans {σ ρ H σ1 ρ1 H1 σ2 ρ2 H2} (a : Ext σ ρ H σ1 ρ1 H1) (b : Ext σ1 ρ1 H1 σ2 ρ2 H2) : Ext σ ρ H σ2 ρ2 H2 where
  keep := fun x n no => by
    have e := a.keep x n no
    refine (b.keep x (by rw [e]; exact n) fun i h => ?_).trans e
    rcases a.grow i x h with ⟨j, z⟩ | z
    · exact no j z
    · exact n z
  grow := fun i x h => by
    rcases b.grow i x h with ⟨j, z⟩ | z
    · exact a.grow j x z
    · by_cases n : H x = none
      · exact .inr n
      · exact absurd z (a.trk x n)
  trk := fun x n => b.trk x (a.trk x n)
  lck := fun i k ds hk h => by
    obtain ⟨h1, h2⟩ := a.lck i k ds hk h
    obtain ⟨h3, h4⟩ := b.lck i k ds hk h1
    exact ⟨h3, h4.trans h2⟩
  bor := fun i k ds hk h => by
    obtain ⟨⟨ds1, h1⟩, h2⟩ := a.bor i k ds hk h
    obtain ⟨h3, h4⟩ := b.bor i k ds1 hk h1
    exact ⟨h3, h4.trans h2⟩
theorem EnvR.ownT {O K σ H ρ} {i : Nat} {a : Addr} (e : EnvR O K σ H ρ) (h : OwnAt σ ρ i a) : ∃ xs : List V, H a = some (.lst xs) := by
  obtain ⟨⟨k, ds, h1⟩, h2⟩ := h
  obtain ⟨a', xs, h3, h4, _⟩ := e.own i k ds h1
  rw [h2] at h3; cases h3
  exact ⟨xs, h4⟩
theorem EnvR.owNe {O K σ H ρ a} (e : EnvR O K σ H ρ) (h : Ow O σ ρ a) : H a ≠ none := by
  rcases h with h | ⟨i, h⟩
  · exact e.out a h
  · obtain ⟨xs, z⟩ := e.ownT h
    rw [z]; exact fun z => nomatch z
theorem Ext.kp {O : Addr → Prop} {σ ρ H σ' ρ' H'} (x : Ext σ ρ H σ' ρ' H') : Keep (Ow O σ ρ) H (Ow O σ' ρ') H' := fun a n h => by
  refine ⟨fun z => ?_, x.keep a h fun i z => n (.inr ⟨i, z⟩)⟩
  rcases z with z | ⟨i, z⟩
  · exact n (.inl z)
  · rcases x.grow i a z with z | z
    · exact n (.inr z)
    · exact h z
/-- only new objects -/
theorem Ext.new {σ ρ H H'} (h : ∀ a, H a ≠ none → H' a = H a) : Ext σ ρ H σ ρ H' := ⟨fun a n _ => h a n, fun i _ z => .inl ⟨i, z⟩, fun a n => by rw [h a n]; exact n, fun _ _ _ _ h => ⟨h, rfl⟩, fun _ _ ds _ h => ⟨⟨ds, h⟩, rfl⟩⟩
theorem EnvR.new {O K σ H H' ρ} (e : EnvR O K σ H ρ) (h : ∀ a, H a ≠ none → H' a = H a) : EnvR O K σ H' ρ := by
  have k : Keep (Ow O σ ρ) H (Ow O σ ρ) H' := fun a n z => ⟨n, h a z⟩
  refine ⟨e.len, fun i d z => ?_, fun i q ds z => ?_, e.inj, fun a z => by rw [h a (e.out a z)]; exact e.out a z⟩
  · obtain ⟨x, h1, h2⟩ := e.val i d z
    exact ⟨x, h1, Rep.keep k _ _ h2⟩
  · obtain ⟨a, xs, h1, h2, h3, h4⟩ := e.own i q ds z
    exact ⟨a, xs, h1, (h a (by rw [h2]; exact fun z => nomatch z)).trans h2, Reps.keep k _ _ h3, h4⟩
/-- a new object that is owned from now on, by nobody here -/
theorem EnvR.newOut {O K σ H H' ρ p} (e : EnvR O K σ H ρ) (h : ∀ a, H a ≠ none → H' a = H a) (hp : H p = none) (hp' : H' p ≠ none) : EnvR (fun a => O a ∨ a = p) K σ H' ρ := by
  have kn : ∀ a, ¬ Ow O σ ρ a → a ≠ p → ¬ Ow (fun a => O a ∨ a = p) σ ρ a := fun a n np z => by
    rcases z with (z | z) | z
    · exact n (.inl z)
    · exact np z
    · exact n (.inr z)
  have k : Keep (Ow O σ ρ) H (Ow (fun a => O a ∨ a = p) σ ρ) H' := fun a n z => ⟨kn a n fun q => z (q ▸ hp), h a z⟩
  refine ⟨e.len, fun i d z => ?_, fun i q ds z => ?_, e.inj, fun a z => ?_⟩
  · obtain ⟨x, h1, h2⟩ := e.val i d z
    exact ⟨x, h1, Rep.keep k _ _ h2⟩
  · obtain ⟨a, xs, h1, h2, h3, h4⟩ := e.own i q ds z
    exact ⟨a, xs, h1, (h a (by rw [h2]; exact fun z => nomatch z)).trans h2, Reps.keep k _ _ h3, fun z => z.elim h4 fun q => by rw [q, hp] at h2; cases h2⟩
  · rcases z with z | z
    · rw [h a (e.out a z)]; exact e.out a z
    · rw [z]; exact hp'
theorem EnvR.lessOut {O O' K σ H ρ} (e : EnvR O K σ H ρ) (h : ∀ a, O' a → O a) : EnvR O' K σ H ρ := by
  have k : Keep (Ow O σ ρ) H (Ow O' σ ρ) H := Keep.less fun a z => z.elim (fun z => .inl (h a z)) .inr
  refine ⟨e.len, fun i d z => ?_, fun i q ds z => ?_, e.inj, fun a z => e.out a (h a z)⟩
  · obtain ⟨x, h1, h2⟩ := e.val i d z
    exact ⟨x, h1, Rep.keep k _ _ h2⟩
  · obtain ⟨a, xs, h1, h2, h3, h4⟩ := e.own i q ds z
    exact ⟨a, xs, h1, h2, Reps.keep k _ _ h3, fun z => h4 (h a z)⟩
end L3

/-! E2: what an expression is worth over the slots (an evaluation), and how that reads over the abstract heap. -/
namespace L3
open PySem L2

/-- an exception: its class's name, its fields' names, their values -/
structure Exc where
  c : Str
  ns : List Str
  fs : List D
/-- a value; fr: a list that nothing else holds -/
structure R where
  d : D
  fr : Bool
inductive Out (α : Type) where
  | ok (a : α) (ρ : Sls)
  | ex (e : Exc) (ρ : Sls)
/-- an evaluation -/
abbrev Ev (α : Type) := Sls → Option (Out α)
def Ev.bind {α β : Type} (f : Ev α) (g : α → Ev β) : Ev β := fun ρ =>
  match f ρ with
  | none => none
  | some (.ok a ρ') => g a ρ'
  | some (.ex e ρ') => some (.ex e ρ')
def Ev.ret {α : Type} (a : α) : Ev α := fun ρ => some (.ok a ρ)
def Ev.opt {α : Type} (o : Option α) : Ev α := fun ρ => o.map fun a => .ok a ρ

/-- the program's exception classes: by number the class's address and its fields' names -/
abbrev XM := Nat → Option (Addr × List Str)
def EAt (O : Addr → Prop) (K : Frag) (_M : XM) (H : Hp) (e : Exc) (cls : Value) (d : Option Addr) : Prop :=
  ∃ C xs, exCls K e.c = some C ∧ cls = .ref C ∧ xs.length = e.ns.length ∧ Reps O K H xs e.fs ∧ ((e.ns = [] ∧ d = none) ∨ ∃ da, d = some da ∧ ¬ O da ∧ H da = some (.xd (e.ns.zip xs)))

structure Post (O : Addr → Prop) (K : Frag) (σ : St) (ρ : Sls) (H : Hp) (r : R) (ρ' : Sls) (x : V) (H' : Hp) : Prop where
  ext : Ext σ ρ H σ ρ' H'
  env : EnvR O K σ H' ρ'
  rep : Rep (Ow O σ ρ') K H' x r.d
  fr : r.fr = true → ∃ p xs ds, x = .ref p ∧ r.d = .lst ds ∧ H p = none ∧ H' p = some (.lst xs) ∧ Reps (Ow (fun a => O a ∨ a = p) σ ρ') K H' xs ds ∧ EnvR (fun a => O a ∨ a = p) K σ H' ρ'
structure XPost (O : Addr → Prop) (K : Frag) (M : XM) (σ : St) (ρ : Sls) (H : Hp) (e : Exc) (ρ' : Sls) (cls : Value) (d : Option Addr) (σ' : St) (H' : Hp) : Prop where
  ext : Ext σ ρ H σ' ρ' H'
  env : EnvR O K σ' H' ρ'
  exc : EAt (Ow O σ' ρ') K M H' e cls d
/-- the same over one run: what is so of the outcome m -/
def Res {α : Type} (K : Frag) (M : XM) (W : WX) (O : Addr → Prop) (σ : St) (ρ : Sls) (H : Hp) (P : α → Sls → Prop) : Option (Out α) → Prop
  | none => False
  | some (.ok r ρ') => P r ρ'
  | some (.ex e ρ') => ∀ cls d H', XPost O K M σ ρ H e ρ' cls d σ H' → W cls d σ H'
def LX (K : Frag) (M : XM) (W : WX) (f : Ev R) : TE := fun σ H Q => ∃ O ρ, EnvR O K σ H ρ ∧ Res K M W O σ ρ H (fun r ρ' => ∀ x H', Post O K σ ρ H r ρ' x H' → Q x H') (f ρ)

section
variable {O : Addr → Prop} {K : Frag} {M : XM} {W : WX} {σ : St} {ρ ρ1 ρ2 : Sls} {H H1 H2 : Hp}
theorem Post.after {r : R} {x : V} (a : Ext σ ρ H σ ρ1 H1) (p : Post O K σ ρ1 H1 r ρ2 x H2) : Post O K σ ρ H r ρ2 x H2 :=
  ⟨a.trans p.ext, p.env, p.rep, fun h => by
    obtain ⟨q, xs, ds, h1, h2, h3, h4, h5⟩ := p.fr h
    refine ⟨q, xs, ds, h1, h2, ?_, h4, h5⟩
    by_cases n : H q = none
    · exact n
    · exact absurd h3 (a.trk q n)⟩
theorem XPost.after {e : Exc} {cls : Value} {d : Option Addr} {σ1 σ2 : St} (a : Ext σ ρ H σ1 ρ1 H1) (p : XPost O K M σ1 ρ1 H1 e ρ2 cls d σ2 H2) : XPost O K M σ ρ H e ρ2 cls d σ2 H2 :=
  ⟨a.trans p.ext, p.env, p.exc⟩
theorem Res.after {α : Type} {P : α → Sls → Prop} {m : Option (Out α)} (a : Ext σ ρ H σ ρ1 H1) (h : Res K M W O σ ρ H P m) : Res K M W O σ ρ1 H1 P m := by
  match m, h with
  | some (.ok r ρ'), h => exact h
  | some (.ex e ρ'), h => exact fun cls d H' q => h cls d H' (q.after a)
theorem Res.mono {α : Type} {P P' : α → Sls → Prop} {m : Option (Out α)} (h : Res K M W O σ ρ H P m) (k : ∀ r ρ', P r ρ' → P' r ρ') : Res K M W O σ ρ H P' m := by
  match m, h with
  | some (.ok r ρ'), h => exact k _ _ h
  | some (.ex e ρ'), h => exact h
/-- what comes behind f comes behind its outcome -/
theorem Res.bind {α β : Type} {P : β → Sls → Prop} {f : Ev α} {g : α → Ev β} (h : Res K M W O σ ρ H P (f.bind g ρ)) : Res K M W O σ ρ H (fun r ρ' => Res K M W O σ ρ H P (g r ρ')) (f ρ) := by
  unfold Ev.bind at h
  revert h
  generalize f ρ = m
  intro h
  match m, h with
  | none, h => exact h
  | some (.ok r ρ'), h => exact h
  | some (.ex e' ρ'), h => exact h
theorem peImp {X : Cx} {e : Expr} {t t' : TE} (h : PE X e t) (k : ∀ σ H Q, t' σ H Q → t σ H Q) : PE X e t' := ⟨fun pins s σ H Q I q => h.run pins s σ H Q I (k σ H Q q)⟩
theorem ptImp {X : Cx} {e : Expr} {t t' : TT} (h : PT X e t) (k : ∀ σ H Q, t' σ H Q → t σ H Q) : PT X e t' := ⟨fun pins s σ H Q I q => h.run pins s σ H Q I (k σ H Q q)⟩
theorem pwImp {X : Cx} {e : Expr} {t t' : TT} (h : PW X e t) (k : ∀ σ H Q, t' σ H Q → t σ H Q) : PW X e t' := ⟨fun wh pins s σ H Q I q => h.run wh pins s σ H Q I (k σ H Q q)⟩
theorem psImp {X : Cx} {e : Stmt} {t t' : TS} (h : PS X e t) (k : ∀ D σ H, t' D σ H → t D σ H) : PS X e t' := ⟨fun pins s σ H D I q => h.run pins s σ H D I (k D σ H q)⟩
theorem pssImp {X : Cx} {e : List Stmt} {t t' : TS} (h : PSs X e t) (k : ∀ D σ H, t' D σ H → t D σ H) : PSs X e t' := ⟨fun pins s σ H D I q => h.run pins s σ H D I (k D σ H q)⟩
end

/-! ### arguments: a name's list may be read late, where the operation reads it -/
inductive SA where
  | late (i : Nat)
  | e (f : Ev R)
def isSet (ρ : Sls) (i : Nat) : Bool := match ρ[i]? with
  | some (.v _) => true
  | some (.own _ _) => true
  | _ => false
def evAs : List SA → Ev (List (Nat ⊕ D))
  | [] => Ev.ret []
  | .late i :: as => fun ρ => match isSet ρ i with
    | true => (evAs as).bind (fun rs => Ev.ret (.inl i :: rs)) ρ
    | false => none
  | .e f :: as => f.bind fun r => (evAs as).bind fun rs => Ev.ret (.inr r.d :: rs)
def LA1 (K : Frag) (M : XM) (W : WX) : SA → TE
  | .late i => tVar i
  | .e f => LX K M W f
def LAs (K : Frag) (M : XM) (W : WX) : List SA → TA
  | [] => tNil
  | a :: as => tCons (LA1 K M W a) (LAs K M W as)
/-- a late one: what its slot holds -/
def lateD : Slot → Option D
  | .unk => none
  | .v d => some d
  | .own _ ds => some (.lst ds)
def finD (ρ : Sls) : List (Nat ⊕ D) → Option (List D)
  | [] => some []
  | .inr d :: rs => (finD ρ rs).map (d :: ·)
  | .inl i :: rs => do
    let s ← ρ[i]?
    let d ← lateD s
    let ds ← finD ρ rs
    pure (d :: ds)
/-- the argument x for the outcome -/
def AR (O : Addr → Prop) (K : Frag) (σ : St) (ρ : Sls) (H : Hp) (x : V) : Nat ⊕ D → Prop
  | .inl i => σ[i]? = some (some x)
  | .inr d => Rep (Ow O σ ρ) K H x d
inductive ARs (O : Addr → Prop) (K : Frag) (σ : St) (ρ : Sls) (H : Hp) : List V → List (Nat ⊕ D) → Prop
  | nil : ARs O K σ ρ H [] []
  | cons {x : V} {xs : List V} {r : Nat ⊕ D} {rs : List (Nat ⊕ D)} : AR O K σ ρ H x r → ARs O K σ ρ H xs rs → ARs O K σ ρ H (x :: xs) (r :: rs)
structure APost (O : Addr → Prop) (K : Frag) (σ : St) (ρ : Sls) (H : Hp) (rs : List (Nat ⊕ D)) (ρ' : Sls) (xs : List V) (H' : Hp) : Prop where
  ext : Ext σ ρ H σ ρ' H'
  env : EnvR O K σ H' ρ'
  reps : ARs O K σ ρ' H' xs rs
section
variable {O : Addr → Prop} {K : Frag} {M : XM} {W : WX} {σ : St} {ρ ρ1 ρ2 : Sls} {H H1 H2 : Hp}
theorem ARs.keep (a : Ext σ ρ H σ ρ1 H1) : ∀ {xs rs}, ARs O K σ ρ H xs rs → ARs O K σ ρ1 H1 xs rs
  | _, _, .nil => .nil
  | _, _, .cons (r := .inl i) h t => .cons h (ARs.keep a t)
  | _, _, .cons (r := .inr d) h t => .cons (Rep.keep a.kp _ _ h) (ARs.keep a t)
theorem AR.keep (a : Ext σ ρ H σ ρ1 H1) : ∀ {x r}, AR O K σ ρ H x r → AR O K σ ρ1 H1 x r
  | _, .inl i, h => h
  | _, .inr d, h => Rep.keep a.kp _ _ h
theorem EnvR.isSet {i : Nat} (E : EnvR O K σ H ρ) (h : isSet ρ i = true) : ∃ x, σ[i]? = some (some x) := by
  unfold L3.isSet at h
  split at h
  · rename_i d e
    obtain ⟨x, h1, _⟩ := E.val i _ e
    exact ⟨x, h1⟩
  · rename_i k ds e
    obtain ⟨a, xs, h1, _⟩ := E.own i _ _ e
    exact ⟨_, h1⟩
  · cases h
/-- the arguments' reading -/
theorem args_ok : ∀ (as : List SA) (ρ : Sls) (H : Hp) (Q : List V → Hp → Prop), EnvR O K σ H ρ →
    Res K M W O σ ρ H (fun rs ρ' => ∀ xs H', APost O K σ ρ H rs ρ' xs H' → Q xs H') (evAs as ρ) → LAs K M W as σ H Q
  | [], ρ, H, Q, E, h => h [] H ⟨.refl, E, .nil⟩
  | .late i :: as, ρ, H, Q, E, h => by
    unfold evAs at h
    cases es : isSet ρ i with
    | false => simp only [es] at h; exact h.elim
    | true =>
    simp only [es] at h
    obtain ⟨x, hx⟩ := E.isSet es
    refine ⟨x, hx, ?_⟩
    refine args_ok as ρ H _ E ?_
    refine (Res.bind (f := evAs as) h).mono fun rs ρ' q xs H' p => ?_
    exact q (x :: xs) H' ⟨p.ext, p.env, .cons hx p.reps⟩
  | .e f :: as, ρ, H, Q, E, h => by
    refine ⟨O, ρ, E, ?_⟩
    refine (Res.bind (f := f) h).mono fun r ρ1 h1 x H1 p => ?_
    refine args_ok as ρ1 H1 _ p.env ?_
    refine (Res.bind (f := evAs as) (h1.after p.ext)).mono fun rs ρ' q xs H' p2 => ?_
    exact q (x :: xs) H' ⟨p.ext.trans p2.ext, p2.env, .cons (Rep.keep p2.ext.kp _ _ p.rep) p2.reps⟩
end

/-! ### a primitive operation over the arguments: it may lay new objects, and changes none -/
/-- an argument as the operation sees it: a list also where it is owned -/
def ArgR (O : Addr → Prop) (K : Frag) (H : Hp) (x : V) (d : D) : Prop := Rep O K H x d ∨ ∃ a xs ds, x = .ref a ∧ d = .lst ds ∧ H a = some (.lst xs) ∧ Reps O K H xs ds
inductive ArgRs (O : Addr → Prop) (K : Frag) (H : Hp) : List V → List D → Prop
  | nil : ArgRs O K H [] []
  | cons {x : V} {xs : List V} {d : D} {ds : List D} : ArgR O K H x d → ArgRs O K H xs ds → ArgRs O K H (x :: xs) (d :: ds)
structure PrPost (O : Addr → Prop) (K : Frag) (H : Hp) (r : R) (x : V) (H' : Hp) : Prop where
  keep : ∀ a, H a ≠ none → H' a = H a
  rep : Rep O K H' x r.d
  fr : r.fr = true → ∃ p xs ds, x = .ref p ∧ r.d = .lst ds ∧ H p = none ∧ H' p = some (.lst xs) ∧ Reps (fun a => O a ∨ a = p) K H' xs ds
abbrev RuL := List V → Hp → VK → Prop
/-- the rule `ru` is served by the function `g` of the data; O holds but what is tracked -/
def PrOk (K : Frag) (ru : RuL) (g : List D → Option R) : Prop := ∀ (O : Addr → Prop) (H : Hp) (xs : List V) (ds : List D) (r : R) (Q : VK), (∀ a, O a → H a ≠ none) → ArgRs O K H xs ds → g ds = some r →
  (∀ x H', PrPost O K H r x H' → Q x H') → ru xs H Q
def evPr (g : List D → Option R) (as : List SA) : Ev R := (evAs as).bind fun rs ρ => match finD ρ rs with
  | none => none
  | some ds => match g ds with
    | none => none
    | some r => some (.ok r ρ)
section
variable {O : Addr → Prop} {K : Frag} {M : XM} {W : WX} {σ : St} {ρ ρ1 ρ2 : Sls} {H H1 H2 : Hp}
theorem fin_ok (E : EnvR O K σ H ρ) : ∀ {xs rs ds}, ARs O K σ ρ H xs rs → finD ρ rs = some ds → ArgRs (Ow O σ ρ) K H xs ds
  | _, _, _, .nil, h => by cases h; exact .nil
  | _, _, _, .cons (r := .inr d) (rs := rs) h t, e => by
    simp only [finD, Option.map_eq_some_iff] at e
    obtain ⟨ds, e1, rfl⟩ := e
    exact .cons (.inl h) (fin_ok E t e1)
  | _, _, _, .cons (x := x) (r := .inl i) (rs := rs) h t, e => by
    simp only [finD, Option.bind_eq_bind, Option.bind_eq_some_iff, Option.pure_def, Option.some.injEq] at e
    obtain ⟨s, e1, d, e2, ds, e3, rfl⟩ := e
    refine .cons ?_ (fin_ok E t e3)
    have h : σ[i]? = some (some x) := h
    cases s with
    | unk => cases e2
    | v d' =>
      cases e2
      obtain ⟨y, h1, h2⟩ := E.val i _ e1
      rw [h] at h1; cases h1
      exact .inl h2
    | own k ds' =>
      cases e2
      obtain ⟨a, ys, h1, h2, h3, _⟩ := E.own i k ds' e1
      rw [h] at h1; cases h1
      exact .inr ⟨a, ys, ds', rfl, rfl, h2, h3⟩
theorem prPost_post {r : R} {x : V} {H' : Hp} (E : EnvR O K σ H ρ) (p : PrPost (Ow O σ ρ) K H r x H') : Post O K σ ρ H r ρ x H' := by
  refine ⟨.new p.keep, E.new p.keep, p.rep, fun h => ?_⟩
  obtain ⟨q, xs, ds, h1, h2, h3, h4, h5⟩ := p.fr h
  refine ⟨q, xs, ds, h1, h2, h3, h4, Reps.keep (Keep.less fun a z => ?_) _ _ h5, E.newOut p.keep h3 (by rw [h4]; exact fun z => nomatch z)⟩
  rcases z with (z | z) | z
  · exact .inl (.inl z)
  · exact .inr z
  · exact .inl (.inr z)
theorem prim_ok {ru : RuL} {g : List D → Option R} (hp : PrOk K ru g) {as : List SA} {Q : VK} (h : LX K M W (evPr g as) σ H Q) : LAs K M W as σ H fun xs H1 => ru xs H1 Q := by
  obtain ⟨O, ρ, E, h⟩ := h
  refine args_ok as ρ H _ E ?_
  refine (Res.bind (f := evAs as) h).mono fun rs ρ1 h1 xs H1 p => ?_
  cases e : finD ρ1 rs with
  | none => simp only [e] at h1; exact h1.elim
  | some ds =>
    simp only [e] at h1
    cases e2 : g ds with
    | none => simp only [e2] at h1; exact h1.elim
    | some r =>
      simp only [e2] at h1
      refine hp (Ow O σ ρ1) H1 xs ds r Q (fun a z => p.env.owNe z) (fin_ok p.env p.reps e) e2 fun x H2 q => ?_
      exact h1 x H2 ((prPost_post p.env q).after p.ext)
end
end L3

/-! E3: the primitive operations: what they are of data, and that the rules serve them. -/
namespace L3
open PySem L2

/-! ### data as the library's data -/
mutual
def D.py : D → PyData
  | .non => .none
  | .bl b => .bool b
  | .int i => .int i
  | .str x => .str x
  | .tup ds => .tuple (D.pys ds)
  | .lst ds => .list (D.pys ds)
  | .fls ds => .list (D.pys ds)
  | .err _ _ _ => .none
  | .obj _ _ _ => .none
def D.pys : List D → List PyData
  | [] => []
  | d :: ds => d.py :: D.pys ds
end
mutual
def D.dep : D → Nat
  | .tup ds => D.deps ds + 1
  | .lst ds => D.deps ds + 1
  | .fls ds => D.deps ds + 1
  | .err _ _ _ => 1000
  | .obj _ _ _ => 1000
  | _ => 0
def D.deps : List D → Nat
  | [] => 0
  | d :: ds => max d.dep (D.deps ds)
end
/-- errors and objects count as None here: == is not asked of them -/
def D.nn : D → Bool
  | .non => true
  | .err _ _ _ => true
  | .obj _ _ _ => true
  | _ => false
/-- == -/
def bi (b : Bool) : Int := if b then 1 else 0
mutual
def D.eqB : D → D → Bool
  | .non, e => e.nn
  | .err _ _ _, e => e.nn
  | .obj _ _ _, e => e.nn
  | .bl a, .bl b => a == b
  | .bl a, .int j => bi a == j
  | .int i, .bl b => i == bi b
  | .int i, .int j => i == j
  | .str x, .str y => x == y
  | .tup xs, .tup ys => D.eqBs xs ys
  | .lst xs, .lst ys => D.eqBs xs ys
  | .lst xs, .fls ys => D.eqBs xs ys
  | .fls xs, .lst ys => D.eqBs xs ys
  | .fls xs, .fls ys => D.eqBs xs ys
  | _, _ => false
def D.eqBs : List D → List D → Bool
  | [], [] => true
  | x :: xs, y :: ys => D.eqB x y && D.eqBs xs ys
  | _, _ => false
end
mutual
theorem eqv_py : ∀ d e : D, PyData.eqv d.py e.py = D.eqB d e
  | .tup xs, e => by
    have h := eqvs_py xs
    cases e <;> simp [D.py, PyData.eqv, D.eqB, h]
  | .lst xs, e => by
    have h := eqvs_py xs
    cases e <;> simp [D.py, PyData.eqv, D.eqB, h]
  | .fls xs, e => by
    have h := eqvs_py xs
    cases e <;> simp [D.py, PyData.eqv, D.eqB, h]
  | .non, e => by cases e <;> simp [D.py, PyData.eqv, D.eqB, D.nn]
  | .err _ _ _, e => by cases e <;> simp [D.py, PyData.eqv, D.eqB, D.nn]
  | .obj _ _ _, e => by cases e <;> simp [D.py, PyData.eqv, D.eqB, D.nn]
  | .bl b, e => by cases e <;> simp [D.py, PyData.eqv, D.eqB, bi]
  | .int b, e => by cases e <;> simp [D.py, PyData.eqv, D.eqB, bi]
  | .str b, e => by cases e <;> simp [D.py, PyData.eqv, D.eqB]
theorem eqvs_py : ∀ (ds es : List D), PyData.eqvAll (D.pys ds) (D.pys es) = D.eqBs ds es
  | [], es => by cases es <;> simp [D.pys, PyData.eqvAll, D.eqBs]
  | d :: ds, es => by
    have h := eqv_py d
    have h2 := eqvs_py ds
    cases es <;> simp [D.pys, PyData.eqvAll, D.eqBs, h, h2]
end
mutual
theorem plain_py : ∀ d : D, d.py.plain = true
  | .tup xs => by simp [D.py, PyData.plain, plains_py xs]
  | .lst xs => by simp [D.py, PyData.plain, plains_py xs]
  | .fls xs => by simp [D.py, PyData.plain, plains_py xs]
  | .non => by simp [D.py, PyData.plain]
  | .err _ _ _ => by simp [D.py, PyData.plain]
  | .obj _ _ _ => by simp [D.py, PyData.plain]
  | .bl b => by simp [D.py, PyData.plain]
  | .int b => by simp [D.py, PyData.plain]
  | .str b => by simp [D.py, PyData.plain]
theorem plains_py : ∀ ds : List D, PyData.plainAll (D.pys ds) = true
  | [] => by simp [D.pys, PyData.plainAll]
  | d :: ds => by simp [D.pys, PyData.plainAll, plain_py d, plains_py ds]
end
mutual
theorem depth_py : ∀ d : D, d.py.depth ≤ d.dep
  | .tup xs => by have := depths_py xs; simp [D.py, PyData.depth, D.dep]; omega
  | .lst xs => by have := depths_py xs; simp [D.py, PyData.depth, D.dep]; omega
  | .fls xs => by have := depths_py xs; simp [D.py, PyData.depth, D.dep]; omega
  | .non => by simp [D.py, PyData.depth, D.dep]
  | .bl b => by simp [D.py, PyData.depth, D.dep]
  | .int b => by simp [D.py, PyData.depth, D.dep]
  | .str b => by simp [D.py, PyData.depth, D.dep]
  | .err _ _ _ => by simp [D.py, PyData.depth, D.dep]
  | .obj _ _ _ => by simp [D.py, PyData.depth, D.dep]
theorem depths_py : ∀ ds : List D, PyData.depthAll (D.pys ds) ≤ D.deps ds
  | [] => by simp [D.pys, PyData.depthAll, D.deps]
  | d :: ds => by have := depth_py d; have := depths_py ds; simp [D.pys, PyData.depthAll, D.deps]; omega
end
section
variable {O : Addr → Prop} {K : Frag} {H H' : Hp}
mutual
theorem Rep.dp : ∀ (d : D) (x : V), d.dep ≤ 64 → Rep O K H x d → Dp K H x d.py
  | .non, _, _, h => by cases h; simp only [D.py]; exact .non
  | .bl b, _, _, h => by cases h; simp only [D.py]; exact .bl _
  | .int b, _, _, h => by cases h; simp only [D.py]; exact .int _
  | .str b, _, _, h => by cases h; simp only [D.py]; exact .str _
  | .tup ds, _, l, h => by
    have l : D.deps ds ≤ 64 := by simp only [D.dep] at l; omega
    cases h with
    | tup t r => simp only [D.py]; exact .tup t.sq (Reps.dp ds _ l r)
  | .lst ds, _, l, h => by
    have l : D.deps ds ≤ 64 := by simp only [D.dep] at l; omega
    cases h with
    | lst n t r => simp only [D.py]; exact .lst (SqL.of t) (Reps.dp ds _ l r)
  | .fls ds, _, l, h => by
    have l : D.deps ds ≤ 64 := by simp only [D.dep] at l; omega
    cases h with
    | fls t r => simp only [D.py]; exact .lst t.sq (Reps.dp ds _ l r)
  | .err _ _ _, _, l, _ => by simp only [D.dep] at l; omega
  | .obj _ _ _, _, l, _ => by simp only [D.dep] at l; omega
theorem Reps.dp : ∀ (ds : List D) (xs : List V), D.deps ds ≤ 64 → Reps O K H xs ds → DpAll K H xs (D.pys ds)
  | [], _, _, h => by cases h; simp only [D.pys]; exact .nil
  | d :: ds, _, l, h => by
    simp only [D.deps] at l
    cases h with
    | cons r rs => simp only [D.pys]; exact .cons (Rep.dp d _ (by omega) r) (Reps.dp ds _ (by omega) rs)
end
theorem ArgR.dp {x : V} {d : D} (l : d.dep ≤ 64) (h : ArgR O K H x d) : Dp K H x d.py := by
  rcases h with h | ⟨a, xs, ds, rfl, rfl, h1, h2⟩
  · exact Rep.dp _ _ l h
  · simp only [D.dep] at l
    simp only [D.py]; exact .lst (SqL.of h1) (Reps.dp ds _ (by omega) h2)
theorem ArgR.non {x} (h : ArgR O K H x .non) : x = .non := by
  rcases h with h | ⟨_, _, _, _, e, _⟩
  · cases h; rfl
  · cases e
theorem ArgR.bl {x b} (h : ArgR O K H x (.bl b)) : x = .bl b := by
  rcases h with h | ⟨_, _, _, _, e, _⟩
  · cases h; rfl
  · cases e
theorem ArgR.int {x i} (h : ArgR O K H x (.int i)) : x = .int i := by
  rcases h with h | ⟨_, _, _, _, e, _⟩
  · cases h; rfl
  · cases e
theorem ArgR.str {x i} (h : ArgR O K H x (.str i)) : x = .str i := by
  rcases h with h | ⟨_, _, _, _, e, _⟩
  · cases h; rfl
  · cases e
theorem ArgR.tup {x ds} (h : ArgR O K H x (.tup ds)) : ∃ a xs, x = .ref a ∧ TAt O K H a xs ∧ Reps O K H xs ds ∧ Rep O K H x (.tup ds) := by
  rcases h with h | ⟨_, _, _, _, e, _⟩
  · cases h with
    | tup t r => exact ⟨_, _, rfl, t, r, .tup t r⟩
  · cases e
theorem ArgR.lst {x ds} (h : ArgR O K H x (.lst ds)) : ∃ a xs, x = .ref a ∧ H a = some (.lst xs) ∧ Reps O K H xs ds := by
  rcases h with h | ⟨a, xs, ds', rfl, e, h1, h2⟩
  · cases h with
    | lst n t r => exact ⟨_, _, rfl, t, r⟩
  · cases e; exact ⟨a, xs, rfl, h1, h2⟩
theorem ArgR.fls {x ds} (h : ArgR O K H x (.fls ds)) : ∃ a xs, x = .ref a ∧ LAt O K H a xs ∧ Reps O K H xs ds := by
  rcases h with h | ⟨a, xs, ds', rfl, e, h1, h2⟩
  · cases h with
    | fls t r => exact ⟨_, _, rfl, t, r⟩
  · cases e
/-- anything that is a list to be read -/
def D.ls : D → Option (List D)
  | .lst ds => some ds
  | .fls ds => some ds
  | _ => none
/-- .. or a tuple -/
def D.sq : D → Option (List D)
  | .lst ds => some ds
  | .fls ds => some ds
  | .tup ds => some ds
  | _ => none
theorem ArgR.ls {x d ds} (h : ArgR O K H x d) (e : d.ls = some ds) : ∃ a xs, x = .ref a ∧ SqL K H a xs ∧ Reps O K H xs ds := by
  cases d with
  | lst es => cases e; obtain ⟨a, xs, h1, h2, h3⟩ := h.lst; exact ⟨a, xs, h1, SqL.of h2, h3⟩
  | fls es => cases e; obtain ⟨a, xs, h1, h2, h3⟩ := h.fls; exact ⟨a, xs, h1, h2.sq, h3⟩
  | _ => cases e
theorem ArgR.sq {x d ds} (h : ArgR O K H x d) (e : d.sq = some ds) : ∃ a xs, x = .ref a ∧ (SqL K H a xs ∨ SqT K H a xs) ∧ Reps O K H xs ds := by
  cases d with
  | lst es => cases e; obtain ⟨a, xs, h1, h2, h3⟩ := h.lst; exact ⟨a, xs, h1, .inl (SqL.of h2), h3⟩
  | fls es => cases e; obtain ⟨a, xs, h1, h2, h3⟩ := h.fls; exact ⟨a, xs, h1, .inl h2.sq, h3⟩
  | tup es => cases e; obtain ⟨a, xs, h1, h2, h3, _⟩ := h.tup; exact ⟨a, xs, h1, .inr h2.sq, h3⟩
  | _ => cases e
theorem ArgRs.one {xs d} (h : ArgRs O K H xs [d]) : ∃ x, xs = [x] ∧ ArgR O K H x d := by
  cases h with
  | cons h1 h2 => cases h2; exact ⟨_, rfl, h1⟩
theorem ArgRs.two {xs d e} (h : ArgRs O K H xs [d, e]) : ∃ x y, xs = [x, y] ∧ ArgR O K H x d ∧ ArgR O K H y e := by
  cases h with
  | cons h1 h2 =>
    obtain ⟨y, rfl, h3⟩ := h2.one
    exact ⟨_, _, rfl, h1, h3⟩
theorem prSc {x : V} {d : D} (h : Rep O K H x d) : PrPost O K H ⟨d, false⟩ x H := ⟨fun _ _ => rfl, h, fun z => nomatch z⟩
theorem prTup {p : Addr} {xs : List V} {ds : List D} (out : ∀ a, O a → H a ≠ none) (hp : H p = none) (h : Reps O K H xs ds) : PrPost O K H ⟨.tup ds, false⟩ (.ref p) (upd H p (.tup xs)) :=
  ⟨fun a n => upd_ne fun z => n (z ▸ hp), .tup (.inl ⟨fun z => out p z hp, .inl upd_same⟩) (Reps.keep (Keep.new hp) _ _ h), fun z => nomatch z⟩
theorem prLst {p : Addr} {xs : List V} {ds : List D} (out : ∀ a, O a → H a ≠ none) (hp : H p = none) (h : Reps O K H xs ds) : PrPost O K H ⟨.lst ds, true⟩ (.ref p) (upd H p (.lst xs)) :=
  ⟨fun a n => upd_ne fun z => n (z ▸ hp), .lst (fun z => out p z hp) upd_same (Reps.keep (Keep.new hp) _ _ h), fun _ => ⟨p, xs, ds, rfl, rfl, hp, upd_same, Reps.keep (Keep.newOwn hp) _ _ h⟩⟩
end

/-! ### the operations -/
def ru1 (r : V → Hp → VK → Prop) : RuL := fun xs H Q => match xs with | [x] => r x H Q | _ => False
def ru2 (r : R2) : RuL := fun xs H Q => match xs with | [x, y] => r x y H Q | _ => False
abbrev LIM : Nat := 16777216
theorem lim_eq : sizeLine = LIM := sizeLine_eq
/-- a guard -/
def gd (c : Bool) (r : R) : Option R := match c with | true => some r | false => none
theorem gd_some {c : Bool} {r r' : R} (h : gd c r = some r') : c = true ∧ r = r' := by
  cases c with
  | true => exact ⟨rfl, Option.some.inj h⟩
  | false => cases h

def gAdd : List D → Option R
  | [.int i, .int j] => some ⟨.int (i + j), false⟩
  | [.str i, .str j] => gd (Nat.ble (i.length + j.length) LIM) ⟨.str (i ++ j), false⟩
  | [.tup xs, .tup ys] => gd (Nat.ble (xs.length + ys.length) LIM) ⟨.tup (xs ++ ys), false⟩
  | [.lst xs, .lst ys] => gd (Nat.ble (xs.length + ys.length) LIM) ⟨.lst (xs ++ ys), true⟩
  | _ => none
def rAddA (K : Frag) : R2 := fun x y H Q => ((rI0 (fun i j => V.int (i + j)) x y H Q ∨ ∃ i j, x = .str i ∧ y = .str j ∧ i.length + j.length ≤ sizeLine ∧ Q (.str (i ++ j)) H) ∨ rCatA K x y H Q) ∨ rCat x y H Q
theorem op_addA {X : Cx} : OpR X (binaryOp .Add) (rAddA X.K) := ((op_add.or op_add_str).or op_catA).or op_cat
theorem pr_add {K : Frag} : PrOk K (ru2 (rAddA K)) gAdd := by
  intro O H xs ds r Q out hr hg q
  unfold gAdd at hg
  split at hg
  · obtain ⟨x, y, rfl, h1, h2⟩ := hr.two
    cases hg
    rw [h1.int, h2.int]
    exact .inl (.inl (.inl ⟨_, _, rfl, rfl, q _ _ (prSc (.int _))⟩))
  · obtain ⟨x, y, rfl, h1, h2⟩ := hr.two
    obtain ⟨c, rfl⟩ := gd_some hg
    rw [h1.str, h2.str]
    exact .inl (.inl (.inr ⟨_, _, rfl, rfl, by rw [lim_eq]; exact Nat.le_of_ble_eq_true c, q _ _ (prSc (.str _))⟩))
  · rename_i es fs
    obtain ⟨x, y, rfl, h1, h2⟩ := hr.two
    obtain ⟨c, rfl⟩ := gd_some hg
    obtain ⟨a, us, rfl, t1, r1, w1⟩ := h1.tup
    obtain ⟨b, ws, rfl, t2, r2, w2⟩ := h2.tup
    have l1 := r1.length
    have l2 := r2.length
    refine .inl (.inr ⟨a, b, us, ws, rfl, rfl, t1.sq, t2.sq, by rw [lim_eq, l1, l2]; exact Nat.le_of_ble_eq_true c, fun z => ?_, fun _ z => ?_, fun _ _ p hp => q _ _ (prTup out hp (r1.app r2))⟩)
    · have e : es = [] := by rw [z] at l1; exact List.eq_nil_of_length_eq_zero l1.symm
      subst e
      exact q _ _ (prSc w2)
    · have e : fs = [] := by rw [z] at l2; exact List.eq_nil_of_length_eq_zero l2.symm
      subst e
      rw [List.append_nil] at q
      exact q _ _ (prSc w1)
  · obtain ⟨x, y, rfl, h1, h2⟩ := hr.two
    obtain ⟨c, rfl⟩ := gd_some hg
    obtain ⟨a, us, rfl, t1, r1⟩ := h1.lst
    obtain ⟨b, ws, rfl, t2, r2⟩ := h2.lst
    exact .inr ⟨a, b, us, ws, rfl, rfl, t1, t2, by rw [lim_eq, r1.length, r2.length]; exact Nat.le_of_ble_eq_true c, fun p hp => q _ _ (prLst out hp (r1.app r2))⟩
  · cases hg

def gSub : List D → Option R
  | [.int i, .int j] => some ⟨.int (i - j), false⟩
  | _ => none
theorem pr_sub {K : Frag} : PrOk K (ru2 (rI0 fun i j => V.int (i - j))) gSub := by
  intro O H xs ds r Q out hr hg q
  unfold gSub at hg
  split at hg
  · obtain ⟨x, y, rfl, h1, h2⟩ := hr.two
    cases hg
    rw [h1.int, h2.int]
    exact ⟨_, _, rfl, rfl, q _ _ (prSc (.int _))⟩
  · cases hg

def small64 (i : Int) : Bool := decide (-18446744073709551616 < i) && decide (i < 18446744073709551616)
theorem small64_of {i : Int} (h : small64 i = true) : -(2 ^ 64) < i ∧ i < 2 ^ 64 := by
  unfold small64 at h
  simp only [Bool.and_eq_true, decide_eq_true_eq] at h
  exact h
def rep (n : Nat) (ds : List D) : List D := (List.replicate n ds).flatten
def gMul : List D → Option R
  | [.int i, .int j] => gd (small64 i || small64 j || Nat.blt (i.natAbs.log2 + j.natAbs.log2) 1000000) ⟨.int (i * j), false⟩
  | [.lst xs, .int k] => gd (decide (-9223372036854775808 ≤ k) && decide (k < 9223372036854775808) && Nat.ble (xs.length * k.toNat) LIM) ⟨.lst (rep k.toNat xs), true⟩
  | [.tup xs, .int k] => gd (Nat.blt 0 xs.length && decide (2 ≤ k) && decide (k ≤ 1000) && Nat.ble xs.length 1000) ⟨.tup (rep k.toNat xs), false⟩
  | _ => none
theorem Reps.flat {O K H} {xs : List V} {ds : List D} (h : Reps O K H xs ds) : ∀ n, Reps O K H (List.replicate n xs).flatten (rep n ds)
  | 0 => .nil
  | n + 1 => by
    unfold rep
    simp only [List.replicate_succ, List.flatten_cons]
    exact h.app (Reps.flat h n)
def rMulA (K : Frag) : R2 := fun x y H Q => ((rI CMul (fun i j => V.int (i * j)) x y H Q ∨ rI CMulW (fun i j => V.int (i * j)) x y H Q) ∨ rRep x y H Q) ∨ rRepT K x y H Q
theorem op_mulA {X : Cx} : OpR X (binaryOp .Mult) (rMulA X.K) := ((op_mul.or op_mulW).or op_rep).or op_repT
theorem pr_mul {K : Frag} : PrOk K (ru2 (rMulA K)) gMul := by
  intro O H xs ds r Q out hr hg q
  unfold gMul at hg
  split at hg
  · rename_i i j
    obtain ⟨x, y, rfl, h1, h2⟩ := hr.two
    obtain ⟨c, rfl⟩ := gd_some hg
    rw [h1.int, h2.int]
    simp only [Bool.or_eq_true] at c
    rcases c with (c | c) | c
    · exact .inl (.inl (.inl ⟨_, _, rfl, rfl, .inl (small64_of c), q _ _ (prSc (.int _))⟩))
    · exact .inl (.inl (.inl ⟨_, _, rfl, rfl, .inr (small64_of c), q _ _ (prSc (.int _))⟩))
    · exact .inl (.inl (.inr ⟨_, _, rfl, rfl, Nat.le_of_ble_eq_true c, q _ _ (prSc (.int _))⟩))
  · obtain ⟨x, y, rfl, h1, h2⟩ := hr.two
    obtain ⟨c, rfl⟩ := gd_some hg
    obtain ⟨a, us, rfl, t1, r1⟩ := h1.lst
    rw [h2.int]
    simp only [Bool.and_eq_true, decide_eq_true_eq] at c
    exact .inl (.inr ⟨a, _, us, rfl, rfl, t1, c.1.1, c.1.2, by rw [lim_eq, r1.length]; exact Nat.le_of_ble_eq_true c.2, fun p hp => q _ _ (prLst out hp (r1.flat _))⟩)
  · obtain ⟨x, y, rfl, h1, h2⟩ := hr.two
    obtain ⟨c, rfl⟩ := gd_some hg
    obtain ⟨a, us, rfl, t1, r1, _⟩ := h1.tup
    rw [h2.int]
    simp only [Bool.and_eq_true, decide_eq_true_eq] at c
    have hl := r1.length
    have h0 := Nat.le_of_ble_eq_true c.1.1.1
    refine .inr ⟨a, _, us, rfl, rfl, t1.sq, fun z => ?_, c.1.1.2, c.1.2, by rw [hl]; exact Nat.le_of_ble_eq_true c.2, fun p hp => q _ _ (prTup out hp (r1.flat _))⟩
    rw [z] at hl
    simp at hl
    omega
  · cases hg

def gFdiv : List D → Option R
  | [.int i, .int j] => gd (decide (0 < j) && Nat.blt j.natAbs.log2 9000) ⟨.int (i / j), false⟩
  | _ => none
theorem pr_fdiv {K : Frag} : PrOk K (ru2 (rI CDivW fun i j => V.int (i / j))) gFdiv := by
  intro O H xs ds r Q out hr hg q
  unfold gFdiv at hg
  split at hg
  · obtain ⟨x, y, rfl, h1, h2⟩ := hr.two
    obtain ⟨c, rfl⟩ := gd_some hg
    rw [h1.int, h2.int]
    simp only [Bool.and_eq_true, decide_eq_true_eq] at c
    exact ⟨_, _, rfl, rfl, ⟨c.1, Nat.le_of_ble_eq_true c.2⟩, q _ _ (prSc (.int _))⟩
  · cases hg
def gMod : List D → Option R
  | [.int i, .int j] => gd (decide (0 < j)) ⟨.int (i % j), false⟩
  | _ => none
theorem pr_mod {K : Frag} : PrOk K (ru2 (rI (fun _ j => 0 < j) fun i j => V.int (i % j))) gMod := by
  intro O H xs ds r Q out hr hg q
  unfold gMod at hg
  split at hg
  · obtain ⟨x, y, rfl, h1, h2⟩ := hr.two
    obtain ⟨c, rfl⟩ := gd_some hg
    rw [h1.int, h2.int]
    exact ⟨_, _, rfl, rfl, of_decide_eq_true c, q _ _ (prSc (.int _))⟩
  · cases hg
def gPow : List D → Option R
  | [.int i, .int j] => gd (decide (0 ≤ j) && decide (j ≤ 1000) && Nat.blt i.natAbs 18446744073709551616) ⟨.int (i ^ j.toNat), false⟩
  | _ => none
theorem pr_pow {K : Frag} : PrOk K (ru2 (rI CPow fun i j => V.int (i ^ j.toNat))) gPow := by
  intro O H xs ds r Q out hr hg q
  unfold gPow at hg
  split at hg
  · obtain ⟨x, y, rfl, h1, h2⟩ := hr.two
    obtain ⟨c, rfl⟩ := gd_some hg
    rw [h1.int, h2.int]
    simp only [Bool.and_eq_true, decide_eq_true_eq] at c
    exact ⟨_, _, rfl, rfl, ⟨c.1.1, by omega, Nat.le_of_ble_eq_true c.2⟩, q _ _ (prSc (.int _))⟩
  · cases hg

/-! comparisons -/
def gCmp (p : Int → Int → Bool) : List D → Option R
  | [.int i, .int j] => some ⟨.bl (p i j), false⟩
  | _ => none
theorem pr_cmp {K : Frag} {p : Int → Int → Bool} : PrOk K (ru2 (rI0 fun i j => V.bl (p i j))) (gCmp p) := by
  intro O H xs ds r Q out hr hg q
  unfold gCmp at hg
  split at hg
  · obtain ⟨x, y, rfl, h1, h2⟩ := hr.two
    cases hg
    rw [h1.int, h2.int]
    exact ⟨_, _, rfl, rfl, q _ _ (prSc (.bl _))⟩
  · cases hg
/-- == over data without dicts -/
def rEqP (K : Frag) (f : Bool → Bool) : R2 := fun x y H Q => ∃ d e, Dp K H x d ∧ Dp K H y e ∧ d.plain = true ∧ e.plain = true ∧ min d.depth e.depth ≤ 64 ∧ Q (.bl (f (PyData.eqv d e))) H
theorem op_eqP {X : Cx} (hu : X.A.units + 64 < cLine) : OpR X (compareOp .Eq) (rEqP X.K id) := by
  intro pins s σ H x y v u Q I rx ry h
  obtain ⟨d, e, hd, he, sd, se, hm, q⟩ := h
  obtain ⟨as, r1⟩ := Dp.reads I d x v hd rx
  obtain ⟨bs, r2⟩ := Dp.reads I e y u he ry
  exact SeqAt.eq_plain r1 r2 sd se (by omega) ⟨.bl _, H, I, rfl, q⟩
theorem op_neP {X : Cx} (hu : X.A.units + 64 < cLine) : OpR X (compareOp .NotEq) (rEqP X.K not) := by
  intro pins s σ H x y v u Q I rx ry h
  obtain ⟨d, e, hd, he, sd, se, hm, q⟩ := h
  obtain ⟨as, r1⟩ := Dp.reads I d x v hd rx
  obtain ⟨bs, r2⟩ := Dp.reads I e y u he ry
  exact SeqAt.ne_plain r1 r2 sd se (by omega) ⟨.bl _, H, I, rfl, q⟩
def gEq (f : Bool → Bool) : List D → Option R
  | [d, e] => gd (Nat.ble (max d.dep e.dep) 64) ⟨.bl (f (D.eqB d e)), false⟩
  | _ => none
theorem pr_eq {K : Frag} {f : Bool → Bool} : PrOk K (ru2 (rEqP K f)) (gEq f) := by
  intro O H xs ds r Q out hr hg q
  unfold gEq at hg
  split at hg
  · rename_i d e
    obtain ⟨x, y, rfl, h1, h2⟩ := hr.two
    obtain ⟨c, rfl⟩ := gd_some hg
    refine ⟨d.py, e.py, h1.dp (by have := Nat.le_of_ble_eq_true c; omega), h2.dp (by have := Nat.le_of_ble_eq_true c; omega), plain_py d, plain_py e, by have := Nat.le_of_ble_eq_true c; have := depth_py d; omega, ?_⟩
    rw [eqv_py]
    exact q _ _ (prSc (.bl _))
  · cases hg
/-- x in xs, a list or a tuple -/
def rInP (K : Frag) (f : Bool → Bool) : R2 := fun x y H Q => ∃ d ds, Dp K H x d ∧ (Dp K H y (.list ds) ∨ Dp K H y (.tuple ds)) ∧ d.plain = true ∧ PyData.plainAll ds = true ∧ min (PyData.depthAll ds) d.depth ≤ 64 ∧ Q (.bl (f (ds.any fun z => PyData.eqv z d))) H
end L3

/-! E4: further operations. -/
namespace L3
open PySem L2

theorem op_inP {X : Cx} (hu : X.A.units + 65 < cLine) : OpR X (compareOp .In) (rInP X.K id) := by
  intro pins s σ H x y v u Q I rx ry h
  obtain ⟨d, ds, hd, he, sd, se, hm, q⟩ := h
  obtain ⟨as, r1⟩ := Dp.reads I d x v hd rx
  rcases he with he | he
  · obtain ⟨bs, r2⟩ := Dp.reads I _ y u he ry
    exact SeqAt.in_list_data r2 r1 se sd (by omega) ⟨.bl _, H, I, rfl, q⟩
  · obtain ⟨bs, r2⟩ := Dp.reads I _ y u he ry
    exact SeqAt.in_tuple_data r2 r1 se sd (by omega) ⟨.bl _, H, I, rfl, q⟩
theorem op_notInP {X : Cx} (hu : X.A.units + 65 < cLine) : OpR X (compareOp .NotIn) (rInP X.K not) := by
  intro pins s σ H x y v u Q I rx ry h
  obtain ⟨d, ds, hd, he, sd, se, hm, q⟩ := h
  obtain ⟨as, r1⟩ := Dp.reads I d x v hd rx
  rcases he with he | he
  · obtain ⟨bs, r2⟩ := Dp.reads I _ y u he ry
    exact SeqAt.notIn_list_data r2 r1 se sd (by omega) ⟨.bl _, H, I, rfl, q⟩
  · obtain ⟨bs, r2⟩ := Dp.reads I _ y u he ry
    exact SeqAt.notIn_tuple_data r2 r1 se sd (by omega) ⟨.bl _, H, I, rfl, q⟩
def D.inB (d : D) (ds : List D) : Bool := ds.any fun z => D.eqB z d
theorem any_py (d : D) : ∀ ds : List D, ((D.pys ds).any fun z => PyData.eqv z d.py) = D.inB d ds
  | [] => rfl
  | e :: ds => by
    unfold D.inB
    simp only [D.pys, List.any_cons, eqv_py]
    rw [any_py d ds]
    rfl
def gIn (f : Bool → Bool) : List D → Option R
  | [d, e] => match e.sq with
    | some ds => gd (Nat.ble (max (D.deps ds) d.dep) 63) ⟨.bl (f (D.inB d ds)), false⟩
    | none => none
  | _ => none
theorem ArgR.sqDp {O K H} {x : V} {d : D} {ds : List D} (l : D.deps ds ≤ 63) (h : ArgR O K H x d) (e : d.sq = some ds) : Dp K H x (.list (D.pys ds)) ∨ Dp K H x (.tuple (D.pys ds)) := by
  have l2 : d.dep ≤ 64 := by cases d <;> simp only [D.sq, Option.some.injEq, reduceCtorEq] at e <;> subst e <;> simp only [D.dep] <;> omega
  have q := h.dp l2
  cases d <;> simp only [D.sq, Option.some.injEq, reduceCtorEq] at e <;> subst e <;> simp only [D.py] at q
  · exact .inr q
  · exact .inl q
  · exact .inl q
theorem pr_in {K : Frag} {f : Bool → Bool} : PrOk K (ru2 (rInP K f)) (gIn f) := by
  intro O H xs ds r Q out hr hg q
  unfold gIn at hg
  split at hg
  · rename_i d e
    obtain ⟨x, y, rfl, h1, h2⟩ := hr.two
    split at hg
    · rename_i es ee
      obtain ⟨c, rfl⟩ := gd_some hg
      refine ⟨d.py, D.pys es, h1.dp (by have := Nat.le_of_ble_eq_true c; omega), h2.sqDp (by have := Nat.le_of_ble_eq_true c; omega) ee, plain_py d, plains_py es, by have := Nat.le_of_ble_eq_true c; have := depth_py d; omega, ?_⟩
      rw [any_py]
      exact q _ _ (prSc (.bl _))
    · cases hg
  · cases hg
def D.isN : D → Bool
  | .non => true
  | _ => false
theorem ArgR.isN {O K H} {x : V} {d : D} (h : ArgR O K H x d) : decide (x = .non) = d.isN := by
  rcases h with h | ⟨a, xs, ds, rfl, rfl, _⟩
  · cases h <;> first | rfl | exact decide_eq_false (fun z => by cases z)
  · exact decide_eq_false (fun z => by cases z)
def gIsN (f : Bool → Bool) : List D → Option R
  | [d, .non] => some ⟨.bl (f d.isN), false⟩
  | _ => none
theorem pr_isN {K : Frag} : PrOk K (ru2 fun x y H Q => y = .non ∧ Q (.bl (decide (x = .non))) H) (gIsN id) := by
  intro O H xs ds r Q out hr hg q
  unfold gIsN at hg
  split at hg
  · obtain ⟨x, y, rfl, h1, h2⟩ := hr.two
    cases hg
    refine ⟨h2.non, ?_⟩
    rw [h1.isN]
    exact q _ _ (prSc (.bl _))
  · cases hg
theorem pr_notN {K : Frag} : PrOk K (ru2 fun x y H Q => y = .non ∧ Q (.bl (!decide (x = .non))) H) (gIsN not) := by
  intro O H xs ds r Q out hr hg q
  unfold gIsN at hg
  split at hg
  · obtain ⟨x, y, rfl, h1, h2⟩ := hr.two
    cases hg
    refine ⟨h2.non, ?_⟩
    rw [h1.isN]
    exact q _ _ (prSc (.bl _))
  · cases hg
/-- x is True, x is not False .. (bools) -/
def gIsB (f : Bool → Bool) : List D → Option R
  | [.bl a, .bl b] => some ⟨.bl (f (a == b)), false⟩
  | _ => none

/-! items -/
theorem atI_map {O K H} {xs : List V} {ds : List D} (h : Reps O K H xs ds) {i : Int} {d : D} (e : atI ds i = some d) : ∃ x, atI xs i = some x ∧ Rep O K H x d := by
  unfold atI at e ⊢
  rw [h.length]
  cases z : ixN ds.length i with
  | none => rw [z] at e; cases e
  | some j =>
    rw [z] at e
    obtain ⟨x, h1, h2⟩ := h.get (i := j) e
    exact ⟨x, h1, h2⟩
def gIx : List D → Option R
  | [.str z, .int i] => match Nat.ble z.length LIM, atI z.cps.toList i with
    | true, some c => some ⟨.str ⟨#[c]⟩, false⟩
    | _, _ => none
  | [d, .int i] => match d.sq with
    | some ds => (atI ds i).map fun e => ⟨e, false⟩
    | none => none
  | _ => none
theorem pr_ix {K : Frag} : PrOk K (ru2 (rIx K)) gIx := by
  intro O H xs ds r Q out hr hg q
  unfold gIx at hg
  split at hg
  · obtain ⟨x, y, rfl, h1, h2⟩ := hr.two
    split at hg
    · rename_i c1 c2
      cases hg
      rw [h1.str, h2.int]
      exact .inr (.inr ⟨_, _, _, rfl, rfl, by rw [lim_eq]; exact Nat.le_of_ble_eq_true c1, c2, q _ _ (prSc (.str _))⟩)
    · cases hg
  · obtain ⟨x, y, rfl, h1, h2⟩ := hr.two
    split at hg
    · rename_i es ee
      simp only [Option.map_eq_some_iff] at hg
      obtain ⟨e, e1, rfl⟩ := hg
      obtain ⟨a, ys, rfl, hs, hr⟩ := h1.sq ee
      obtain ⟨z, hz, rz⟩ := atI_map hr e1
      rw [h2.int]
      rcases hs with hs | hs
      · exact .inl ⟨a, ys, _, z, rfl, rfl, hs, hz, q _ _ (prSc rz)⟩
      · exact .inr (.inl ⟨a, ys, _, z, rfl, rfl, hs, hz, q _ _ (prSc rz)⟩)
    · cases hg
  · cases hg

/-! slices: the two ends are arguments, None where left out -/
def oI : D → Option (Option Int)
  | .non => some none
  | .int i => some (some i)
  | _ => none
def cutD {α : Type} (xs : List α) (lo hi : Option Int) : List α := List.take (HT.sIx xs.length xs.length hi - HT.sIx xs.length 0 lo) (List.drop (HT.sIx xs.length 0 lo) xs)
theorem Reps.cut {O K H} {xs : List V} {ds : List D} (h : Reps O K H xs ds) (lo hi : Option Int) : Reps O K H (cutV xs lo hi) (cutD ds lo hi) := by
  unfold cutV cutD
  rw [h.length]
  exact (h.drop _).take _
def gSl (lo hi : Option Int) : D → Option R
  | .tup ds => some ⟨.tup (cutD ds lo hi), false⟩
  | .lst ds => some ⟨.lst (cutD ds lo hi), true⟩
  | .fls ds => some ⟨.lst (cutD ds lo hi), true⟩
  | _ => none
def rSl2 (K : Frag) : V → Option Int → Option Int → Hp → VK → Prop := fun x lo hi H Q => rSlL K x lo hi H Q ∨ rSlA K x lo hi H Q
theorem sl2 {X : Cx} : SlR X (rSl2 X.K) := by
  intro pins s σ H x v vl vu lo hi sl Q I rx hs pl pu h
  rcases h with h | h
  · exact sl_list pins s σ H x v vl vu lo hi sl Q I rx hs pl pu h
  · exact sl_tupA pins s σ H x v vl vu lo hi sl Q I rx hs pl pu h
theorem cutD_whole {α : Type} {xs : List α} {lo hi : Option Int} (h : HT.sIx xs.length 0 lo = 0 ∧ HT.sIx xs.length xs.length hi = xs.length) : cutD xs lo hi = xs := by
  unfold cutD
  rw [h.1, h.2]
  simp
theorem pr_sl {K : Frag} {O : Addr → Prop} {H : Hp} {x : V} {d : D} {lo hi : Option Int} {r : R} {Q : VK} (out : ∀ a, O a → H a ≠ none) (hr : ArgR O K H x d) (hg : gSl lo hi d = some r)
    (q : ∀ x H', PrPost O K H r x H' → Q x H') : rSl2 K x lo hi H Q := by
  cases d with
  | tup ds =>
    cases hg
    obtain ⟨a, ys, rfl, t, rs, rw'⟩ := hr.tup
    refine .inr ⟨a, ys, rfl, t.sq, fun z => ?_, fun _ p hp => q _ _ (prTup out hp (rs.cut lo hi))⟩
    rw [rs.length] at z
    rw [cutD_whole z] at q
    exact q _ _ (prSc rw')
  | lst ds =>
    cases hg
    obtain ⟨a, ys, rfl, t, rs⟩ := hr.lst
    exact .inl ⟨a, ys, rfl, SqL.of t, fun p hp => q _ _ (prLst out hp (rs.cut lo hi))⟩
  | fls ds =>
    cases hg
    obtain ⟨a, ys, rfl, t, rs⟩ := hr.fls
    exact .inl ⟨a, ys, rfl, t.sq, fun p hp => q _ _ (prLst out hp (rs.cut lo hi))⟩
  | _ => cases hg

/-! displays -/
def gTup (ds : List D) : Option R := gd (Nat.ble ds.length LIM) ⟨.tup ds, false⟩
def gLst (ds : List D) : Option R := gd (Nat.ble ds.length LIM) ⟨.lst ds, true⟩
/-- all arguments are plain values -/
inductive VReps (O : Addr → Prop) (K : Frag) (H : Hp) : List V → List D → Prop
  | nil : VReps O K H [] []

/-! built-in functions of values -/
def gLen : List D → Option R
  | [.str z] => gd (Nat.ble z.length LIM) ⟨.int z.length, false⟩
  | [d] => match d.sq with
    | some ds => some ⟨.int ds.length, false⟩
    | none => none
  | _ => none
def rLenA (K : Frag) : RuL := fun xs H Q => (∃ p ys, xs = [.ref p] ∧ (SqL K H p ys ∨ SqT K H p ys) ∧ Q (.int ys.length) H) ∨ (∃ z, xs = [.str z] ∧ z.length ≤ sizeLine ∧ Q (.int z.length) H)
theorem CallR.or {X : Cx} {f : Value} {r r' : RuL} (h : CallR X f r) (h' : CallR X f r') : CallR X f (fun xs H Q => r xs H Q ∨ r' xs H Q) := by
  intro pins s σ H xs us Q I r q
  rcases q with q | q
  · exact h pins s σ H xs us Q I r q
  · exact h' pins s σ H xs us Q I r q
theorem call_lenA {X : Cx} : CallR X (.builtin "len") (rLenA X.K) := CallR.or call_len_seq call_len_str
theorem pr_len {K : Frag} : PrOk K (rLenA K) gLen := by
  intro O H xs ds r Q out hr hg q
  unfold gLen at hg
  split at hg
  · obtain ⟨x, rfl, h1⟩ := hr.one
    obtain ⟨c, rfl⟩ := gd_some hg
    rw [h1.str]
    exact .inr ⟨_, rfl, by rw [lim_eq]; exact Nat.le_of_ble_eq_true c, q _ _ (prSc (.int _))⟩
  · obtain ⟨x, rfl, h1⟩ := hr.one
    split at hg
    · rename_i es ee
      cases hg
      obtain ⟨a, ys, rfl, hs, hr⟩ := h1.sq ee
      refine .inl ⟨a, ys, rfl, hs, ?_⟩
      rw [hr.length]
      exact q _ _ (prSc (.int _))
    · cases hg
  · cases hg
def gAbs : List D → Option R
  | [.int i] => some ⟨.int (if i < 0 then -i else i), false⟩
  | _ => none
theorem pr_abs {K : Frag} : PrOk K (fun xs H Q => ∃ i, xs = [V.int i] ∧ Q (.int (if i < 0 then -i else i)) H) gAbs := by
  intro O H xs ds r Q out hr hg q
  unfold gAbs at hg
  split at hg
  · obtain ⟨x, rfl, h1⟩ := hr.one
    cases hg
    rw [h1.int]
    exact ⟨_, rfl, q _ _ (prSc (.int _))⟩
  · cases hg
def gInt : List D → Option R
  | [.int i] => some ⟨.int i, false⟩
  | [.bl b] => some ⟨.int (bi b), false⟩
  | _ => none
theorem pr_int {K : Frag} : PrOk K (fun xs H Q => (∃ i, xs = [V.int i] ∧ Q (.int i) H) ∨ ∃ k, xs = [V.bl k] ∧ Q (.int (if k then 1 else 0)) H) gInt := by
  intro O H xs ds r Q out hr hg q
  unfold gInt at hg
  split at hg
  · obtain ⟨x, rfl, h1⟩ := hr.one
    cases hg
    rw [h1.int]
    exact .inl ⟨_, rfl, q _ _ (prSc (.int _))⟩
  · obtain ⟨x, rfl, h1⟩ := hr.one
    cases hg
    rw [h1.bl]
    exact .inr ⟨_, rfl, q _ _ (prSc (.int _))⟩
  · cases hg
def gList : List D → Option R
  | [d] => match d.sq with
    | some ds => some ⟨.lst ds, true⟩
    | none => none
  | _ => none
theorem pr_list {K : Frag} : PrOk K (fun xs H Q => ∃ p ys, xs = [V.ref p] ∧ (SqL K H p ys ∨ SqT K H p ys) ∧ ∀ l, H l = none → Q (.ref l) (upd H l (.lst ys))) gList := by
  intro O H xs ds r Q out hr hg q
  unfold gList at hg
  split at hg
  · obtain ⟨x, rfl, h1⟩ := hr.one
    split at hg
    · rename_i es ee
      cases hg
      obtain ⟨a, ys, rfl, hs, hr⟩ := h1.sq ee
      exact ⟨a, ys, rfl, hs, fun p hp => q _ _ (prLst out hp hr)⟩
    · cases hg
  · cases hg
def gTuple : List D → Option R
  | [.tup ds] => some ⟨.tup ds, false⟩
  | [d] => match d.ls with
    | some ds => some ⟨.tup ds, false⟩
    | none => none
  | _ => none
theorem pr_tuple {K : Frag} : PrOk K (fun xs H Q => ∃ p ys, xs = [V.ref p] ∧ ((SqL K H p ys ∧ ∀ l, H l = none → Q (.ref l) (upd H l (.tup ys))) ∨ (SqT K H p ys ∧ Q (.ref p) H))) gTuple := by
  intro O H xs ds r Q out hr hg q
  unfold gTuple at hg
  split at hg
  · obtain ⟨x, rfl, h1⟩ := hr.one
    cases hg
    obtain ⟨a, ys, rfl, t, rs, rw'⟩ := h1.tup
    exact ⟨a, ys, rfl, .inr ⟨t.sq, q _ _ (prSc rw')⟩⟩
  · obtain ⟨x, rfl, h1⟩ := hr.one
    split at hg
    · rename_i es ee
      cases hg
      obtain ⟨a, ys, rfl, hs, hr⟩ := h1.ls ee
      exact ⟨a, ys, rfl, .inl ⟨hs, fun p hp => q _ _ (prTup out hp hr)⟩⟩
    · cases hg
  · cases hg

/-! lists of ints, of bools -/
def D.ints : List D → Option (List Int)
  | [] => some []
  | .int i :: ds => (D.ints ds).map (i :: ·)
  | _ :: _ => none
def D.bls : List D → Option (List Bool)
  | [] => some []
  | .bl i :: ds => (D.bls ds).map (i :: ·)
  | _ :: _ => none
theorem Reps.isInts {O K H} : ∀ {ds : List D} {xs : List V} {ns : List Int}, Reps O K H xs ds → D.ints ds = some ns → xs = ns.map V.int
  | [], _, ns, h, e => by cases h; cases e; rfl
  | d :: ds, _, ns, h, e => by
    cases h with
    | cons r rs =>
      cases d <;> simp only [D.ints, Option.map_eq_some_iff, reduceCtorEq] at e
      obtain ⟨ms, e1, rfl⟩ := e
      cases r
      rw [Reps.isInts rs e1]
      rfl
theorem Reps.isBls {O K H} : ∀ {ds : List D} {xs : List V} {ns : List Bool}, Reps O K H xs ds → D.bls ds = some ns → xs = ns.map V.bl
  | [], _, ns, h, e => by cases h; cases e; rfl
  | d :: ds, _, ns, h, e => by
    cases h with
    | cons r rs =>
      cases d <;> simp only [D.bls, Option.map_eq_some_iff, reduceCtorEq] at e
      obtain ⟨ms, e1, rfl⟩ := e
      cases r
      rw [Reps.isBls rs e1]
      rfl
def lsInts (d : D) : Option (List Int) := d.ls.bind D.ints
def lsBls (d : D) : Option (List Bool) := d.ls.bind D.bls
theorem ArgR.lsInts {O K H} {x : V} {d : D} {ns : List Int} (h : ArgR O K H x d) (e : lsInts d = some ns) : ∃ a, x = .ref a ∧ SqL K H a (ns.map V.int) := by
  unfold L3.lsInts at e
  rw [Option.bind_eq_some_iff] at e
  obtain ⟨ds, e1, e2⟩ := e
  obtain ⟨a, xs, rfl, h1, h2⟩ := h.ls e1
  exact ⟨a, rfl, by rw [← h2.isInts e2]; exact h1⟩
theorem ArgR.lsBls {O K H} {x : V} {d : D} {ns : List Bool} (h : ArgR O K H x d) (e : lsBls d = some ns) : ∃ a, x = .ref a ∧ SqL K H a (ns.map V.bl) := by
  unfold L3.lsBls at e
  rw [Option.bind_eq_some_iff] at e
  obtain ⟨ds, e1, e2⟩ := e
  obtain ⟨a, xs, rfl, h1, h2⟩ := h.ls e1
  exact ⟨a, rfl, by rw [← h2.isBls e2]; exact h1⟩
def gSum : List D → Option R
  | [d] => (lsInts d).map fun ns => ⟨.int ns.sum, false⟩
  | _ => none
theorem pr_sum {K : Frag} : PrOk K (rSum K) gSum := by
  intro O H xs ds r Q out hr hg q
  unfold gSum at hg
  split at hg
  · obtain ⟨x, rfl, h1⟩ := hr.one
    simp only [Option.map_eq_some_iff] at hg
    obtain ⟨ns, e1, rfl⟩ := hg
    obtain ⟨a, rfl, hs⟩ := h1.lsInts e1
    exact ⟨a, ns, rfl, hs, q _ _ (prSc (.int _))⟩
  · cases hg
def gAll : List D → Option R
  | [d] => (lsBls d).map fun ns => ⟨.bl (ns.all id), false⟩
  | _ => none
theorem pr_all {K : Frag} : PrOk K (rAll K) gAll := by
  intro O H xs ds r Q out hr hg q
  unfold gAll at hg
  split at hg
  · obtain ⟨x, rfl, h1⟩ := hr.one
    simp only [Option.map_eq_some_iff] at hg
    obtain ⟨ns, e1, rfl⟩ := hg
    obtain ⟨a, rfl, hs⟩ := h1.lsBls e1
    exact ⟨a, ns, rfl, hs, q _ _ (prSc (.bl _))⟩
  · cases hg
def gAny : List D → Option R
  | [d] => (lsBls d).map fun ns => ⟨.bl (ns.any id), false⟩
  | _ => none
theorem pr_any {K : Frag} : PrOk K (rAny K) gAny := by
  intro O H xs ds r Q out hr hg q
  unfold gAny at hg
  split at hg
  · obtain ⟨x, rfl, h1⟩ := hr.one
    simp only [Option.map_eq_some_iff] at hg
    obtain ⟨ns, e1, rfl⟩ := hg
    obtain ⟨a, rfl, hs⟩ := h1.lsBls e1
    exact ⟨a, ns, rfl, hs, q _ _ (prSc (.bl _))⟩
  · cases hg
/-- the greatest, the least of ints -/
def imax : Int → List Int → Int
  | m, [] => m
  | m, n :: ns => imax (if n > m then n else m) ns
def imin : Int → List Int → Int
  | m, [] => m
  | m, n :: ns => imin (if n < m then n else m) ns
theorem imax_mem : ∀ (m : Int) (ns : List Int), imax m ns ∈ m :: ns ∧ ∀ y ∈ m :: ns, y ≤ imax m ns
  | m, [] => ⟨by simp [imax], by simp [imax]⟩
  | m, n :: ns => by
    obtain ⟨h1, h2⟩ := imax_mem (if n > m then n else m) ns
    unfold imax
    refine ⟨?_, fun y hy => ?_⟩
    · rcases List.mem_cons.mp h1 with e | e
      · rw [e]; split <;> simp
      · simp [e]
    · have h3 := h2 (if n > m then n else m) (by simp)
      rcases List.mem_cons.mp hy with e | hy
      · subst e; split at h3 <;> rename_i c <;> (try rw [if_pos c]) <;> (try rw [if_neg c]) <;> omega
      · rcases List.mem_cons.mp hy with e | hy
        · subst e; split at h3 <;> rename_i c <;> (try rw [if_pos c]) <;> (try rw [if_neg c]) <;> omega
        · exact h2 y (by simp [hy])
theorem imin_mem : ∀ (m : Int) (ns : List Int), imin m ns ∈ m :: ns ∧ ∀ y ∈ m :: ns, imin m ns ≤ y
  | m, [] => ⟨by simp [imin], by simp [imin]⟩
  | m, n :: ns => by
    obtain ⟨h1, h2⟩ := imin_mem (if n < m then n else m) ns
    unfold imin
    refine ⟨?_, fun y hy => ?_⟩
    · rcases List.mem_cons.mp h1 with e | e
      · rw [e]; split <;> simp
      · simp [e]
    · have h3 := h2 (if n < m then n else m) (by simp)
      rcases List.mem_cons.mp hy with e | hy
      · subst e; split at h3 <;> rename_i c <;> (try rw [if_pos c]) <;> (try rw [if_neg c]) <;> omega
      · rcases List.mem_cons.mp hy with e | hy
        · subst e; split at h3 <;> rename_i c <;> (try rw [if_pos c]) <;> (try rw [if_neg c]) <;> omega
        · exact h2 y (by simp [hy])
def gMax : List D → Option R
  | [.int i, .int j] => some ⟨.int (if j > i then j else i), false⟩
  | [d] => match lsInts d with
    | some (n :: ns) => some ⟨.int (imax n ns), false⟩
    | _ => none
  | _ => none
def rMaxA (K : Frag) : RuL := fun xs H Q => (∃ i j, xs = [V.int i, .int j] ∧ Q (.int (if j > i then j else i)) H) ∨ rMax K xs H Q
theorem pr_max {K : Frag} : PrOk K (rMaxA K) gMax := by
  intro O H xs ds r Q out hr hg q
  unfold gMax at hg
  split at hg
  · obtain ⟨x, y, rfl, h1, h2⟩ := hr.two
    cases hg
    rw [h1.int, h2.int]
    exact .inl ⟨_, _, rfl, q _ _ (prSc (.int _))⟩
  · obtain ⟨x, rfl, h1⟩ := hr.one
    split at hg
    · rename_i n ns e1
      cases hg
      obtain ⟨a, rfl, hs⟩ := h1.lsInts e1
      refine .inr ⟨a, n :: ns, rfl, hs, by simp, fun m hm hle => ?_⟩
      obtain ⟨g1, g2⟩ := imax_mem n ns
      have e : m = imax n ns := Int.le_antisymm (g2 m hm) (hle _ g1)
      rw [e]
      exact q _ _ (prSc (.int _))
    · cases hg
  · cases hg
def gMin : List D → Option R
  | [.int i, .int j] => some ⟨.int (if j < i then j else i), false⟩
  | [d] => match lsInts d with
    | some (n :: ns) => some ⟨.int (imin n ns), false⟩
    | _ => none
  | _ => none
def rMinA (K : Frag) : RuL := fun xs H Q => (∃ i j, xs = [V.int i, .int j] ∧ Q (.int (if j < i then j else i)) H) ∨ rMin K xs H Q
theorem pr_min {K : Frag} : PrOk K (rMinA K) gMin := by
  intro O H xs ds r Q out hr hg q
  unfold gMin at hg
  split at hg
  · obtain ⟨x, y, rfl, h1, h2⟩ := hr.two
    cases hg
    rw [h1.int, h2.int]
    exact .inl ⟨_, _, rfl, q _ _ (prSc (.int _))⟩
  · obtain ⟨x, rfl, h1⟩ := hr.one
    split at hg
    · rename_i n ns e1
      cases hg
      obtain ⟨a, rfl, hs⟩ := h1.lsInts e1
      refine .inr ⟨a, n :: ns, rfl, hs, by simp, fun m hm hle => ?_⟩
      obtain ⟨g1, g2⟩ := imin_mem n ns
      have e : m = imin n ns := Int.le_antisymm (hle _ g1) (g2 m hm)
      rw [e]
      exact q _ _ (prSc (.int _))
    · cases hg
  · cases hg
/-- sorted ints -/
def ins (n : Int) : List Int → List Int
  | [] => [n]
  | m :: ms => match decide (n ≤ m) with
    | true => n :: m :: ms
    | false => m :: ins n ms
def isort : List Int → List Int
  | [] => []
  | n :: ns => ins n (isort ns)
theorem ins_perm (n : Int) : ∀ ms, (ins n ms).Perm (n :: ms)
  | [] => .refl _
  | m :: ms => by
    unfold ins
    cases decide (n ≤ m) with
    | true => exact .refl _
    | false => exact ((ins_perm n ms).cons m).trans (.swap ..)
theorem isort_perm : ∀ ns, (isort ns).Perm ns
  | [] => .refl _
  | n :: ns => (ins_perm n _).trans ((isort_perm ns).cons n)
theorem ins_sorted (n : Int) : ∀ ms : List Int, ms.Pairwise (· ≤ ·) → (ins n ms).Pairwise (· ≤ ·)
  | [], _ => by simp [ins]
  | m :: ms, h => by
    unfold ins
    cases c : decide (n ≤ m) with
    | true =>
      have c := of_decide_eq_true c
      refine List.Pairwise.cons (fun y hy => ?_) h
      rcases List.mem_cons.mp hy with e | hy
      · rw [e]; exact c
      · exact Int.le_trans c ((List.pairwise_cons.mp h).1 y hy)
    | false =>
      have c := of_decide_eq_false c
      refine List.Pairwise.cons (fun y hy => ?_) (ins_sorted n ms (List.pairwise_cons.mp h).2)
      rcases List.mem_cons.mp ((ins_perm n ms).mem_iff.mp hy) with e | hy
      · rw [e]; omega
      · exact (List.pairwise_cons.mp h).1 y hy
theorem isort_sorted : ∀ ns, (isort ns).Pairwise (· ≤ ·)
  | [] => .nil
  | n :: ns => ins_sorted n _ (isort_sorted ns)
theorem sorted_one : ∀ {as bs : List Int}, as.Perm bs → as.Pairwise (· ≤ ·) → bs.Pairwise (· ≤ ·) → as = bs := fun h1 h2 h3 =>
  h1.eq_of_pairwise (fun a b _ _ h h' => Int.le_antisymm h h') h2 h3
def gSortI (d : D) : Option R := (lsInts d).map fun ns => ⟨.lst ((isort ns).map D.int), true⟩
end L3

/-! E5: isinstance, sorted. -/
namespace L3
open PySem L2

inductive Ty where
  | non | bool | int | str | list | tuple | dict
  deriving DecidableEq
def Ty.nm : Ty → String
  | .non => "NoneType" | .bool => "bool" | .int => "int" | .str => "str" | .list => "list" | .tuple => "tuple" | .dict => "dict"
def Ty.is : Ty → Ty → Bool
  | .bool, .int => true
  | a, b => decide (a = b)
theorem kit_is (K : Frag) (a b : Ty) : PySem.W.kitOne K (.type a.nm) (.type b.nm) = some (a.is b) := by
  refine kit_ty ?_
  cases a <;> cases b <;> decide +kernel
theorem kit_any (K : Frag) (a : Ty) : ∀ bs : List Ty, PySem.W.kitAny K (.type a.nm) (bs.map fun b => .type b.nm) = some (bs.any a.is)
  | [] => rfl
  | b :: bs => by
    refine kitAny_cons (kit_is K a b) (fun h => ?_) fun h => ?_
    · rw [kit_any K a bs]; simp [h]
    · simp [h]
def D.ty : D → Ty
  | .non => .non | .bl _ => .bool | .int _ => .int | .str _ => .str | .tup _ => .tuple | .lst _ => .list | .fls _ => .list | .err _ _ _ => .non | .obj _ _ _ => .non
/-- neither an error nor an object -/
def D.pl : D → Bool
  | .err _ _ _ => false
  | .obj _ _ _ => false
  | _ => true
theorem ArgR.ty {O K H} {x : V} {d : D} (hp : d.pl = true) (h : ArgR O K H x d) : TyX K H x (.type d.ty.nm) := by
  cases d with
  | err _ _ _ => cases hp
  | obj _ _ _ => cases hp
  | non => rw [h.non]; exact .base .non
  | bl b => rw [h.bl]; exact .base (.bl _)
  | int i => rw [h.int]; exact .base (.int _)
  | str z => rw [h.str]; exact .base (.str _)
  | tup ds =>
    obtain ⟨a, xs, rfl, t, _⟩ := h.tup
    rcases t with ⟨_, t | ⟨o, t⟩⟩ | ⟨o, its, n, h1, h2, _⟩
    · exact .base (.tup t)
    · exact .fTuple t
    · exact .kTuple h1 h2
  | lst ds =>
    obtain ⟨a, xs, rfl, t, _⟩ := h.lst
    exact .base (.lst t)
  | fls ds =>
    obtain ⟨a, xs, rfl, t, _⟩ := h.fls
    rcases t with ⟨_, t | ⟨o, t⟩⟩ | ⟨o, its, n, h1, h2, _⟩
    · exact .base (.lst t)
    · exact .base (.frz t)
    · exact .kList h1 h2
def gIsi (bs : List Ty) : List D → Option R
  | [d] => gd d.pl ⟨.bl (bs.any d.ty.is), false⟩
  | _ => none
def ruIsi1 (K : Frag) (b : Ty) : RuL := fun xs H Q => match xs with | [x] => rIsi K [x, .ty b.nm] H Q | _ => False
def ruIsiT (K : Frag) (bs : List Ty) : RuL := fun xs H Q => match xs with
  | [x] => (bs.map fun b => V.ty b.nm).length ≤ sizeLine ∧ ∀ p, H p = none → rIsiT K [x, .ref p] (upd H p (.tup (bs.map fun b => V.ty b.nm))) Q
  | _ => False
theorem pr_isi1 {K : Frag} {b : Ty} : PrOk K (ruIsi1 K b) (gIsi [b]) := by
  intro O H xs ds r Q out hr hg q
  unfold gIsi at hg
  split at hg
  · rename_i d
    obtain ⟨x, rfl, h1⟩ := hr.one
    obtain ⟨hp, rfl⟩ := gd_some hg
    refine ⟨x, .ty b.nm, _, _, d.ty.is b, rfl, .ty _, h1.ty hp, kit_is K d.ty b, ?_⟩
    have e : [b].any d.ty.is = d.ty.is b := by simp
    rw [e] at q
    exact q _ _ (prSc (.bl _))
  · cases hg
theorem ArgR.keepN {O K H H'} {x : V} {d : D} (k : Keep O H O H') (k2 : ∀ a, H a ≠ none → H' a = H a) (h : ArgR O K H x d) : ArgR O K H' x d := by
  rcases h with h | ⟨a, xs, ds, rfl, rfl, h1, h2⟩
  · exact .inl (Rep.keep k _ _ h)
  · exact .inr ⟨a, xs, ds, rfl, rfl, (k2 a (by rw [h1]; exact fun z => nomatch z)).trans h1, Reps.keep k _ _ h2⟩
theorem clsV_tys (bs : List Ty) : Paired ClsV (bs.map fun b => V.ty b.nm) (bs.map fun b => Value.type b.nm) := by
  induction bs with
  | nil => exact .nil
  | cons b bs ih => exact .cons (.ty _) ih
theorem pr_isiT {K : Frag} {bs : List Ty} (hl : bs.length ≤ 100) : PrOk K (ruIsiT K bs) (gIsi bs) := by
  intro O H xs ds r Q out hr hg q
  unfold gIsi at hg
  split at hg
  · rename_i d
    obtain ⟨x, rfl, h1⟩ := hr.one
    obtain ⟨hpl, rfl⟩ := gd_some hg
    refine ⟨by rw [List.length_map, lim_eq]; show bs.length ≤ 16777216; omega, fun p hp => ?_⟩
    have k2 : ∀ a, H a ≠ none → upd H p (.tup (bs.map fun b => V.ty b.nm)) a = H a := fun a n => upd_ne fun z => n (z ▸ hp)
    have h2 := h1.keepN (Keep.new (u := .tup (bs.map fun b => V.ty b.nm)) hp) k2
    exact ⟨x, p, _, _, _, _, rfl, upd_same, clsV_tys bs, h2.ty hpl, kit_any K d.ty bs, q _ _ ⟨k2, .bl _, fun z => nomatch z⟩⟩
  · cases hg

/-! sorted lists of tuples of ints -/
def SB : Int := 1048576
def tints : List D → Option (List (List Int))
  | [] => some []
  | .tup es :: ds => match D.ints es with
    | some ns => (tints ds).map (ns :: ·)
    | none => none
  | _ :: _ => none
def tupI (ns : List Int) : D := .tup (ns.map D.int)
theorem ints_of : ∀ {ds : List D} {ns : List Int}, D.ints ds = some ns → ds = ns.map D.int
  | [], _, e => by cases e; rfl
  | d :: ds, _, e => by
    cases d <;> simp only [D.ints, Option.map_eq_some_iff, reduceCtorEq] at e
    obtain ⟨ms, e1, rfl⟩ := e
    rw [ints_of e1]; rfl
theorem tints_of : ∀ {ds : List D} {nss : List (List Int)}, tints ds = some nss → ds = nss.map tupI
  | [], _, e => by cases e; rfl
  | d :: ds, _, e => by
    cases d <;> simp only [tints, reduceCtorEq] at e
    split at e
    · rename_i ns e1
      simp only [Option.map_eq_some_iff] at e
      obtain ⟨mss, e2, rfl⟩ := e
      rw [tints_of e2, ints_of e1]; rfl
    · cases e
def tins (n : List Int) : List (List Int) → List (List Int)
  | [] => [n]
  | m :: ms => match decide (TS.code SB n ≤ TS.code SB m) with
    | true => n :: m :: ms
    | false => m :: tins n ms
def tsort : List (List Int) → List (List Int)
  | [] => []
  | n :: ns => tins n (tsort ns)
theorem tins_perm (n : List Int) : ∀ ms, (tins n ms).Perm (n :: ms)
  | [] => .refl _
  | m :: ms => by
    unfold tins
    cases decide (TS.code SB n ≤ TS.code SB m) with
    | true => exact .refl _
    | false => exact ((tins_perm n ms).cons m).trans (.swap ..)
theorem tsort_perm : ∀ ns, (tsort ns).Perm ns
  | [] => .refl _
  | n :: ns => (tins_perm n _).trans ((tsort_perm ns).cons n)
abbrev cle (a b : List Int) : Prop := TS.code SB a ≤ TS.code SB b
theorem tins_sorted (n : List Int) : ∀ ms : List (List Int), ms.Pairwise cle → (tins n ms).Pairwise cle
  | [], _ => by simp [tins]
  | m :: ms, h => by
    unfold tins
    cases c : decide (TS.code SB n ≤ TS.code SB m) with
    | true =>
      have c := of_decide_eq_true c
      refine List.Pairwise.cons (fun y hy => ?_) h
      rcases List.mem_cons.mp hy with e | hy
      · rw [e]; exact c
      · exact Int.le_trans c ((List.pairwise_cons.mp h).1 y hy)
    | false =>
      have c := of_decide_eq_false c
      refine List.Pairwise.cons (fun y hy => ?_) (tins_sorted n ms (List.pairwise_cons.mp h).2)
      rcases List.mem_cons.mp ((tins_perm n ms).mem_iff.mp hy) with e | hy
      · rw [e]; show TS.code SB m ≤ TS.code SB n; omega
      · exact (List.pairwise_cons.mp h).1 y hy
theorem tsort_sorted : ∀ ns, (tsort ns).Pairwise cle
  | [] => .nil
  | n :: ns => tins_sorted n _ (tsort_sorted ns)
theorem code_inj : ∀ {a b : List Int}, a.length = b.length → TS.Bd SB a → TS.Bd SB b → TS.code SB a = TS.code SB b → a = b
  | [], [], _, _, _, _ => rfl
  | x :: a, y :: b, hl, ha, hb, e => by
    have hl' : a.length = b.length := by simpa using hl
    rcases Int.lt_trichotomy x y with h | h | h
    · have := TS.code_lt hl' ha.tail hb.tail h; omega
    · subst h
      have e' : TS.code SB a = TS.code SB b := by
        have h1 := TS.code_same (B := SB) (d := x) hl'
        have h2 := TS.code_same (B := SB) (d := x) hl'.symm
        rcases Int.lt_trichotomy (TS.code SB a) (TS.code SB b) with z | z | z
        · have := h1.mpr z; omega
        · exact z
        · have := h2.mpr z; omega
      rw [code_inj hl' ha.tail hb.tail e']
    · have := TS.code_lt hl'.symm hb.tail ha.tail h; omega
/-- all of one length from 1 on, all entries in [0, SB) -/
def okDims : List (List Int) → Bool
  | [] => true
  | n :: ns => Nat.blt 0 n.length && (n :: ns).all fun m => decide (m.length = n.length) && m.all fun i => decide (0 ≤ i) && decide (i < SB)
theorem okDims_of {nss : List (List Int)} (h : okDims nss = true) : ∃ d, 1 ≤ d ∧ ∀ m ∈ nss, m.length = d ∧ TS.Bd SB m := by
  cases nss with
  | nil => exact ⟨1, Nat.le_refl _, fun m hm => nomatch hm⟩
  | cons n ns =>
    unfold okDims at h
    simp only [Bool.and_eq_true, List.all_eq_true, decide_eq_true_eq] at h
    exact ⟨n.length, Nat.le_of_ble_eq_true h.1, fun m hm => ⟨(h.2 m hm).1, fun i hi => (h.2 m hm).2 i hi⟩⟩
theorem Reps.perm {O K H} {xs ys : List V} (p : ys.Perm xs) : ∀ {ds : List D}, Reps O K H xs ds → ∃ es, es.Perm ds ∧ Reps O K H ys es := by
  induction p with
  | nil => intro ds h; exact ⟨ds, .refl _, h⟩
  | cons x p ih =>
    intro ds h
    cases h with
    | cons r rs =>
      obtain ⟨es, h1, h2⟩ := ih rs
      exact ⟨_, h1.cons _, .cons r h2⟩
  | swap x y l =>
    intro ds h
    cases h with
    | cons r rs =>
      cases rs with
      | cons r2 rs => exact ⟨_, .swap .., .cons r2 (.cons r rs)⟩
  | trans p1 p2 ih1 ih2 =>
    intro ds h
    obtain ⟨es, h1, h2⟩ := ih2 h
    obtain ⟨fs, h3, h4⟩ := ih1 h2
    exact ⟨fs, h3.trans h1, h4⟩
theorem perm_map {α β : Type} (f : α → β) : ∀ {bs : List β} {as : List α}, bs.Perm (as.map f) → ∃ cs : List α, cs.Perm as ∧ bs = cs.map f := by
  intro bs as p
  generalize e : as.map f = es at p
  induction p generalizing as with
  | nil => cases as <;> simp at e; exact ⟨[], .refl _, rfl⟩
  | cons x p ih =>
    cases as with
    | nil => simp at e
    | cons a as =>
      simp only [List.map_cons, List.cons.injEq] at e
      obtain ⟨cs, h1, rfl⟩ := ih e.2
      exact ⟨a :: cs, h1.cons a, by rw [← e.1]; rfl⟩
  | swap x y l =>
    match as, e with
    | a :: b :: as, e =>
      simp only [List.map_cons, List.cons.injEq] at e
      exact ⟨b :: a :: as, .swap .., by simp [e]⟩
  | trans p1 p2 ih1 ih2 =>
    obtain ⟨cs, h1, rfl⟩ := ih2 e
    obtain ⟨es, h3, rfl⟩ := ih1 rfl
    exact ⟨es, h3.trans h1, rfl⟩
theorem Rep.tupI {O K H} {x : V} {ns : List Int} (h : Rep O K H x (tupI ns)) : TupI K H x ns := by
  unfold L3.tupI at h
  cases h with
  | tup t r =>
    refine ⟨_, rfl, ?_⟩
    have e : D.ints (ns.map D.int) = some ns := by
      clear t r
      induction ns with
      | nil => rfl
      | cons n ns ih => simp [D.ints, ih]
    rw [← r.isInts e]
    exact t.sq
theorem Reps.pairT {O K H} {ys : List V} : ∀ {nss : List (List Int)}, Reps O K H ys (nss.map tupI) → ys.Pairwise (fun x y => ∀ n m, TupI K H x n → TupI K H y m → TS.code SB n ≤ TS.code SB m) → nss.Pairwise cle := by
  induction ys with
  | nil => intro nss h _; cases nss with
    | nil => exact .nil
    | cons n ns => cases h
  | cons y ys ih =>
    intro nss h p
    cases nss with
    | nil => exact .nil
    | cons n ns =>
      simp only [List.map_cons] at h
      cases h with
      | cons r rs =>
        obtain ⟨p1, p2⟩ := List.pairwise_cons.mp p
        refine .cons (fun m hm => ?_) (ih rs p2)
        obtain ⟨i, hi, e⟩ := List.mem_iff_getElem.mp hm
        obtain ⟨z, h1, h2⟩ := rs.get (i := i) (d := tupI m) (by rw [List.getElem?_map, List.getElem?_eq_getElem hi, e]; rfl)
        exact p1 z (List.mem_of_getElem? h1) _ _ r.tupI h2.tupI
theorem Reps.allT {O K H} {xs : List V} : ∀ {nss : List (List Int)}, Reps O K H xs (nss.map L3.tupI) → ∀ x ∈ xs, ∃ ns ∈ nss, TupI K H x ns := by
  induction xs with
  | nil => intro nss _ x hx; cases hx
  | cons y ys ih =>
    intro nss h x hx
    cases nss with
    | nil => cases h
    | cons n ns =>
      simp only [List.map_cons] at h
      cases h with
      | cons r rs =>
        rcases List.mem_cons.mp hx with e | hx
        · subst e; exact ⟨n, by simp, r.tupI⟩
        · obtain ⟨m, h1, h2⟩ := ih rs x hx
          exact ⟨m, by simp [h1], h2⟩
def gSorted : List D → Option R
  | [d] => match lsInts d with
    | some ns => some ⟨.lst ((isort ns).map D.int), true⟩
    | none => match d.ls.bind tints with
      | some nss => gd (Nat.blt nss.length 64 && okDims nss) ⟨.lst ((tsort nss).map tupI), true⟩
      | none => none
  | _ => none
def rSortedA (K : Frag) : RuL := fun xs H Q => rSortedI K xs H Q ∨ ∃ d, 1 ≤ d ∧ rSortU K d SB xs H Q
theorem call_sortedA {X : Cx} : CallR X (.builtin "sorted") (rSortedA X.K) := by
  intro pins s σ H xs us Q I r q
  rcases q with q | ⟨d, hd, q⟩
  · exact cr_sortedI pins s σ H xs us Q I r q
  · exact cr_sortT hd pins s σ H xs us Q I r q
theorem pr_sorted {K : Frag} : PrOk K (rSortedA K) gSorted := by
  intro O H xs ds r Q out hr hg q
  unfold gSorted at hg
  split at hg
  · rename_i d
    obtain ⟨x, rfl, h1⟩ := hr.one
    split at hg
    · rename_i ns e1
      cases hg
      obtain ⟨a, rfl, hs⟩ := h1.lsInts e1
      refine .inl ⟨a, ns, rfl, hs, fun ns' p hp hw h0 => ?_⟩
      rw [sorted_one (hp.trans (isort_perm ns).symm) hw (isort_sorted ns)]
      exact q _ _ (prLst out h0 (Reps.ints _))
    · split at hg
      · rename_i nss e1
        obtain ⟨c, rfl⟩ := gd_some hg
        rw [Option.bind_eq_some_iff] at e1
        obtain ⟨es, e2, e3⟩ := e1
        obtain ⟨a, ys, rfl, hs, hr⟩ := h1.ls e2
        rw [tints_of e3] at hr
        simp only [Bool.and_eq_true] at c
        obtain ⟨dd, hd, hB⟩ := okDims_of c.2
        have hl := hr.length
        rw [List.length_map] at hl
        refine .inr ⟨dd, hd, a, ys, rfl, hs, by rw [hl]; exact Nat.le_of_ble_eq_true c.1, fun x hx => ?_, fun zs p hp hw h0 => ?_⟩
        · obtain ⟨ns, h2, h3⟩ := hr.allT x hx
          exact ⟨ns, h3, hB ns h2⟩
        · obtain ⟨fs, hf, rz⟩ := hr.perm hp
          obtain ⟨mss, hm, rfl⟩ := perm_map L3.tupI hf
          have hw' := rz.pairT hw
          have pm : mss.Perm (tsort nss) := hm.trans (tsort_perm nss).symm
          have e : mss = tsort nss := pm.eq_of_pairwise (fun a b ha hb h h' => code_inj (by
            rw [(hB a (hm.mem_iff.mp ha)).1, (hB b ((tsort_perm nss).mem_iff.mp hb)).1]) (hB a (hm.mem_iff.mp ha)).2 (hB b ((tsort_perm nss).mem_iff.mp hb)).2 (Int.le_antisymm h h')) hw' (tsort_sorted nss)
          subst e
          exact q _ _ (prLst out h0 rz)
      · cases hg
  · cases hg
end L3

/-! E6: expressions: names, constants, operations, tests. -/
namespace L3
open PySem L2
section
variable {O : Addr → Prop} {K : Frag} {M : XM} {W : WX} {σ : St} {ρ ρ1 ρ2 : Sls} {H H1 H2 : Hp}

theorem get_set {ρ : Sls} {i j : Nat} {s t : Slot} (h : (ρ.set i s)[j]? = some t) : (j = i ∧ t = s) ∨ (j ≠ i ∧ ρ[j]? = some t) := by
  by_cases e : i = j
  · subst e
    by_cases hl : i < ρ.length
    · rw [List.getElem?_set_self hl] at h
      exact .inl ⟨rfl, (Option.some.inj h).symm⟩
    · rw [List.getElem?_eq_none (by simpa using hl)] at h; cases h
  · rw [List.getElem?_set_ne e] at h
    exact .inr ⟨fun z => e z.symm, h⟩
/-- the list of slot i is handed on: from now on it is a value -/
theorem EnvR.freeze {i k : Nat} {ds : List D} (E : EnvR O K σ H ρ) (h : ρ[i]? = some (.own k ds)) (hk : k = 0) :
    ∃ x, σ[i]? = some (some x) ∧ Ext σ ρ H σ (ρ.set i (.v (.lst ds))) H ∧ EnvR O K σ H (ρ.set i (.v (.lst ds))) ∧ Rep (Ow O σ (ρ.set i (.v (.lst ds)))) K H x (.lst ds) := by
  obtain ⟨a, xs, h1, h2, h3, h4⟩ := E.own i k ds h
  have own' : ∀ j b, OwnAt σ (ρ.set i (.v (.lst ds))) j b → OwnAt σ ρ j b ∧ j ≠ i := fun j b ⟨⟨k', es, e1⟩, e2⟩ => by
    rcases get_set e1 with ⟨_, z⟩ | ⟨z1, z2⟩
    · cases z
    · exact ⟨⟨⟨k', es, z2⟩, e2⟩, z1⟩
  have less : ∀ b, Ow O σ (ρ.set i (.v (.lst ds))) b → Ow O σ ρ b := fun b z => z.elim .inl fun ⟨j, z⟩ => .inr ⟨j, (own' j b z).1⟩
  have kp : Keep (Ow O σ ρ) H (Ow O σ (ρ.set i (.v (.lst ds)))) H := Keep.less less
  have rp : Rep (Ow O σ (ρ.set i (.v (.lst ds)))) K H (.ref a) (.lst ds) := .lst (fun z => by
    rcases z with z | ⟨j, z⟩
    · exact h4 z
    · obtain ⟨z1, z2⟩ := own' j a z
      exact z2 (E.inj j i a z1 ⟨⟨k, ds, h⟩, h1⟩)) h2 (Reps.keep kp _ _ h3)
  refine ⟨.ref a, h1, ⟨fun _ _ _ => rfl, fun j b z => .inl ⟨j, (own' j b z).1⟩, fun _ n => n, fun j k' es hk' z => ?_, fun j k' es hk' z => ?_⟩, ⟨by rw [List.length_set]; exact E.len, fun j d e => ?_, fun j k' es e => ?_, fun j l b z1 z2 => E.inj j l b (own' j b z1).1 (own' l b z2).1, E.out⟩, rp⟩
  · refine ⟨?_, rfl⟩
    rw [List.getElem?_set_ne fun q => by subst q; rw [h] at z; cases z; omega]
    exact z
  · refine ⟨⟨es, ?_⟩, rfl⟩
    rw [List.getElem?_set_ne fun q => by subst q; rw [h] at z; cases z; omega]
    exact z
  · rcases get_set e with ⟨rfl, z⟩ | ⟨_, z⟩
    · cases z; exact ⟨_, h1, rp⟩
    · obtain ⟨x, g1, g2⟩ := E.val j d z
      exact ⟨x, g1, Rep.keep kp _ _ g2⟩
  · rcases get_set e with ⟨_, z⟩ | ⟨_, z⟩
    · cases z
    · obtain ⟨b, ys, g1, g2, g3, g4⟩ := E.own j k' es z
      exact ⟨b, ys, g1, g2, Reps.keep kp _ _ g3, g4⟩
/-- the list of slot i is changed -/
theorem EnvR.change {i k : Nat} {ds ds' : List D} {a : Addr} {xs' : List V} (E : EnvR O K σ H ρ) (h : ρ[i]? = some (.own k ds)) (hk : k < 2) (ha : σ[i]? = some (some (.ref a))) (r : Reps (Ow O σ ρ) K H xs' ds') :
    Ext σ ρ H σ (ρ.set i (.own k ds')) (upd H a (.lst xs')) ∧ EnvR O K σ (upd H a (.lst xs')) (ρ.set i (.own k ds')) ∧ Keep (Ow O σ ρ) H (Ow O σ (ρ.set i (.own k ds'))) (upd H a (.lst xs')) := by
  have oi : OwnAt σ ρ i a := ⟨⟨k, ds, h⟩, ha⟩
  have own' : ∀ j b, OwnAt σ (ρ.set i (.own k ds')) j b → OwnAt σ ρ j b := fun j b ⟨⟨k', es, e1⟩, e2⟩ => by
    rcases get_set e1 with ⟨rfl, _⟩ | ⟨_, z2⟩
    · exact ⟨⟨k, ds, h⟩, e2⟩
    · exact ⟨⟨k', es, z2⟩, e2⟩
  have less : ∀ b, Ow O σ (ρ.set i (.own k ds')) b → Ow O σ ρ b := fun b z => z.elim .inl fun ⟨j, z⟩ => .inr ⟨j, own' j b z⟩
  have kp : Keep (Ow O σ ρ) H (Ow O σ (ρ.set i (.own k ds'))) (upd H a (.lst xs')) := fun b n z => ⟨fun q => n (less b q), upd_ne fun e => n (e ▸ .inr ⟨i, oi⟩)⟩
  refine ⟨⟨fun b n no => upd_ne fun e => no i (e ▸ oi), fun j b z => .inl ⟨j, own' j b z⟩, fun b n => ?_, fun j k' es hk' z => ?_, fun j k' es hk' z => ?_⟩, ⟨by rw [List.length_set]; exact E.len, fun j d e => ?_, fun j k' es e => ?_, fun j l b z1 z2 => E.inj j l b (own' j b z1) (own' l b z2), fun b z => ?_⟩, kp⟩
  · by_cases e : b = a
    · subst e; rw [upd_same]; exact fun z => nomatch z
    · rw [upd_ne e]; exact n
  · refine ⟨?_, rfl⟩
    rw [List.getElem?_set_ne fun q => by subst q; rw [h] at z; cases z; omega]
    exact z
  · refine ⟨?_, rfl⟩
    by_cases q : i = j
    · subst q
      rw [h] at z; cases z
      exact ⟨ds', List.getElem?_set_self (List.getElem?_eq_some_iff.mp h).1⟩
    · exact ⟨es, by rw [List.getElem?_set_ne q]; exact z⟩
  · rcases get_set e with ⟨rfl, z⟩ | ⟨_, z⟩
    · cases z
    · obtain ⟨x, g1, g2⟩ := E.val j d z
      exact ⟨x, g1, Rep.keep kp _ _ g2⟩
  · obtain ⟨a', xs, h1, h2, h3, h4⟩ := E.own i k ds h
    rw [ha] at h1; cases h1
    rcases get_set e with ⟨rfl, z⟩ | ⟨zn, z⟩
    · cases z
      exact ⟨a, xs', ha, upd_same, Reps.keep kp _ _ r, h4⟩
    · obtain ⟨b, ys, g1, g2, g3, g4⟩ := E.own j k' es z
      have hb : b ≠ a := fun q => zn (E.inj j i a ⟨⟨k', es, z⟩, q ▸ g1⟩ oi)
      exact ⟨b, ys, g1, by rw [upd_ne hb]; exact g2, Reps.keep kp _ _ g3, g4⟩
  · by_cases e : b = a
    · subst e; rw [upd_same]; exact fun z => nomatch z
    · rw [upd_ne e]; exact E.out b z

def evSl (i : Nat) : Ev R := fun ρ => match ρ[i]? with
  | some (.v d) => some (.ok ⟨d, false⟩ ρ)
  | some (.own 0 ds) => some (.ok ⟨.lst ds, false⟩ (ρ.set i (.v (.lst ds))))
  | _ => none
theorem sl_ok {i : Nat} {Q : VK} (h : LX K M W (evSl i) σ H Q) : tVar i σ H Q := by
  obtain ⟨O, ρ, E, h⟩ := h
  unfold evSl at h
  split at h
  · rename_i d e
    obtain ⟨x, h1, h2⟩ := E.val i d e
    exact ⟨x, h1, h x H ⟨.refl, E, h2, fun z => nomatch z⟩⟩
  · rename_i ds e
    obtain ⟨x, h1, h2, h3, h4⟩ := E.freeze e rfl
    exact ⟨x, h1, h x H ⟨h2, h3, h4, fun z => nomatch z⟩⟩
  · exact h.elim
/-- a constant -/
def evK (d : D) : Ev R := Ev.ret ⟨d, false⟩
theorem k_ok {d : D} {v : V} {Q : VK} (hr : ∀ O H, Rep O K H v d) (h : LX K M W (evK d) σ H Q) : tC v σ H Q := by
  obtain ⟨O, ρ, E, h⟩ := h
  exact h v H ⟨.refl, E, hr _ _, fun z => nomatch z⟩
end

section
variable {X : Cx} {M : XM} {W : WX} {a b c e o : Expr} {es : List Expr} {pos : Pos} {sa sb sc : SA} {ss : List SA}
/-- an operand: a name that is read late, or an expression -/
def PArg (X : Cx) (M : XM) (W : WX) (e : Expr) (s : SA) : Prop := PE X e (LA1 X.K M W s)
theorem x_late {i : Nat} {x : Str} (hN : X.N[i]? = some x) (hv : Vis X.env.scope x) (hd : (x == ("__debug__" : Str)) = false) (hcd : (x == ("__classdict__" : Str)) = false) : PArg X M W (.Name x pos) (.late i) := pe_var hN hv hd hcd
theorem x_sl {i : Nat} {x : Str} (hN : X.N[i]? = some x) (hv : Vis X.env.scope x) (hd : (x == ("__debug__" : Str)) = false) (hcd : (x == ("__classdict__" : Str)) = false) : PE X (.Name x pos) (LX X.K M W (evSl i)) :=
  peImp (pe_var hN hv hd hcd) fun _ _ _ h => sl_ok h
theorem x_int {i : Int} {j : Nat} : PE X (.Constant (.int i) j pos) (LX X.K M W (evK (.int i))) := peImp pe_int fun _ _ _ h => k_ok (fun _ _ => .int i) h
theorem x_bl {i : Bool} {j : Nat} : PE X (.Constant (.bool i) j pos) (LX X.K M W (evK (.bl i))) := peImp pe_bl fun _ _ _ h => k_ok (fun _ _ => .bl i) h
theorem x_non {j : Nat} : PE X (.Constant .none j pos) (LX X.K M W (evK .non)) := peImp pe_non fun _ _ _ h => k_ok (fun _ _ => .non) h
theorem x_str {i : Str} {j : Nat} : PE X (.Constant (.str i) j pos) (LX X.K M W (evK (.str i))) := peImp pe_str fun _ _ _ h => k_ok (fun _ _ => .str i) h
theorem x_bin {op : Operator} {r : R2} {g : List D → Option R} (ho : OpR X (binaryOp op) r) (hp : PrOk X.K (ru2 r) g) (ha : PArg X M W a sa) (hb : PArg X M W b sb) : PE X (.BinOp a op b pos) (LX X.K M W (evPr g [sa, sb])) :=
  peImp (pe_op ho ha hb) fun _ _ _ h => prim_ok hp h
theorem x_cmp {op : CmpOp} {r : R2} {g : List D → Option R} (ho : OpR X (compareOp op) r) (hp : PrOk X.K (ru2 r) g) (ha : PArg X M W a sa) (hb : PArg X M W b sb) (hm : behindInMarks op b = false) : PE X (.Compare a [op] [b] pos) (LX X.K M W (evPr g [sa, sb])) :=
  peImp (pe_cmpR ho ha hb hm) fun _ _ _ h => prim_ok hp h
def gNeg : List D → Option R
  | [.int i] => some ⟨.int (-i), false⟩
  | _ => none
theorem pr_neg {K : Frag} : PrOk K (ru1 (rU fun i => V.int (-i))) gNeg := by
  intro O H xs ds r Q out hr hg q
  unfold gNeg at hg
  split at hg
  · obtain ⟨x, rfl, h1⟩ := hr.one
    cases hg
    rw [h1.int]
    exact ⟨_, rfl, q _ _ (prSc (.int _))⟩
  · cases hg
theorem x_neg (ha : PArg X M W a sa) : PE X (.UnaryOp .USub a pos) (LX X.K M W (evPr gNeg [sa])) :=
  peImp (pe_un un_neg ha) fun _ _ _ h => prim_ok pr_neg h
theorem x_ix (ha : PArg X M W a sa) (hb : PArg X M W b sb) (hs : PlainIx b) : PE X (.Subscript a b pos) (LX X.K M W (evPr gIx [sa, sb])) :=
  peImp (pe_ix ix_seq ha hb hs) fun _ _ _ h => prim_ok pr_ix h
/-- f(..), f a built-in function, a type -/
theorem x_callB {x : Str} {p : Pos} {id : String} {r : RuL} {g : List D → Option R} {s : SA} (hc : CallR X (.builtin id) r) (hp : PrOk X.K r g) (hg : Gl X x) (hm : X.mg x = none) (hv : bootBuiltins x = some (.builtin id)) (ha : PA X (e :: es) (LAs X.K M W (s :: ss))) (hn : x ≠ "__name__") (hd : (x == ("__debug__" : Str)) = false)
    (h1 : starEach (e :: es) X.env = (false, eval e X.env) :: starEach es X.env) (h2 : ((backTo pos (starEach es X.env)).any fun x => x.fst) = false) : PE X (.Call (.Name x p) (e :: es) [] pos) (LX X.K M W (evPr g (s :: ss))) :=
  peImp (pe_callB hc hg hm hv ha hn hd h1 h2) fun _ _ _ h => prim_ok hp h
theorem x_callTy {x : Str} {p : Pos} {T : String} {r : RuL} {g : List D → Option R} {s : SA} (hc : CallR X (.type T) r) (hp : PrOk X.K r g) (hg : Gl X x) (hm : X.mg x = none) (hv : bootBuiltins x = some (.type T)) (ha : PA X (e :: es) (LAs X.K M W (s :: ss))) (hn : x ≠ "__name__") (hd : (x == ("__debug__" : Str)) = false)
    (h1 : starEach (e :: es) X.env = (false, eval e X.env) :: starEach es X.env) (h2 : ((backTo pos (starEach es X.env)).any fun x => x.fst) = false) : PE X (.Call (.Name x p) (e :: es) [] pos) (LX X.K M W (evPr g (s :: ss))) :=
  peImp (pe_callTy hc hg hm hv ha hn hd h1 h2) fun _ _ _ h => prim_ok hp h
theorem xa_nil : PA X [] (LAs X.K M W []) := pa_nil
theorem xa_cons (ha : PArg X M W e sa) (hr : PA X es (LAs X.K M W ss)) (hs : starEach (e :: es) X.env = (false, eval e X.env) :: starEach es X.env) : PA X (e :: es) (LAs X.K M W (sa :: ss)) := pa_cons ha hr hs
/-- displays: all items are expressions -/
def allE : List SA → Bool
  | [] => true
  | .e _ :: ss => allE ss
  | .late _ :: _ => false
theorem ARs.allR {O K σ ρ H} : ∀ {ss : List SA} {xs rs ds}, allE ss = true → ARs O K σ ρ H xs rs → (∃ ρ0 ρ1, evAs ss ρ0 = some (.ok rs ρ1)) → finD ρ rs = some ds → Reps (Ow O σ ρ) K H xs ds := by
  intro ss
  induction ss with
  | nil =>
    intro xs rs ds _ h ⟨ρ0, ρ1, e⟩ f
    cases e
    cases h
    cases f
    exact .nil
  | cons s ss ih =>
    intro xs rs ds ha h ⟨ρ0, ρ1, e⟩ f
    cases s with
    | late i => cases ha
    | e g =>
      simp only [evAs, Ev.bind] at e
      split at e
      · cases e
      · rename_i r ρ2 e2
        split at e
        · cases e
        · rename_i rs' ρ3 e3
          cases e
          cases h with
          | cons h1 h2 =>
            simp only [finD, Option.map_eq_some_iff] at f
            obtain ⟨es, f1, rfl⟩ := f
            exact .cons h1 (ih ha h2 ⟨_, _, e3⟩ f1)
        · cases e
      · cases e
/-- new object of the items -/
theorem disp_ok {K : Frag} {M : XM} {W : WX} {σ : St} {H : Hp} {g : List D → Option R} {ru : List V → Hp → VK → Prop}
    (hp : ∀ (O : Addr → Prop) (H : Hp) (xs : List V) (ds : List D) (r : R) (Q : VK), (∀ a, O a → H a ≠ none) → Reps O K H xs ds → g ds = some r → (∀ x H', PrPost O K H r x H' → Q x H') → ru xs H Q)
    {ss : List SA} {Q : VK} (ha : allE ss = true) (h : LX K M W (evPr g ss) σ H Q) : LAs K M W ss σ H fun xs H1 => ru xs H1 Q := by
  obtain ⟨O, ρ, E, h⟩ := h
  refine args_ok ss ρ H _ E ?_
  have h' := Res.bind (f := evAs ss) h
  generalize hm : evAs ss ρ = m at h' ⊢
  match m, h' with
  | some (.ex e ρ'), h' => exact h'
  | some (.ok rs ρ1), h1 =>
    intro xs H1 p
    have h1 : Res K M W O σ ρ H _ (match finD ρ1 rs with
      | none => none
      | some ds => match g ds with
        | none => none
        | some r => some (.ok r ρ1)) := h1
    cases e : finD ρ1 rs with
    | none => simp only [e] at h1; exact h1.elim
    | some ds =>
      simp only [e] at h1
      cases e2 : g ds with
      | none => simp only [e2] at h1; exact h1.elim
      | some r =>
        simp only [e2] at h1
        refine hp (Ow O σ ρ1) H1 xs ds r Q (fun a z => p.env.owNe z) (p.reps.allR ha ⟨_, _, hm⟩ e) e2 fun x H2 q => ?_
        exact h1 x H2 ((prPost_post p.env q).after p.ext)
theorem x_tup {k : Nat} (ha : allE ss = true) (h : PA X es (LAs X.K M W ss)) : PE X (.Tuple es k pos) (LX X.K M W (evPr gTup ss)) := by
  refine peImp (pe_tup h) fun σ H Q q => ?_
  refine disp_ok (ru := fun xs H1 Q => xs.length ≤ sizeLine ∧ ∀ p, H1 p = none → Q (.ref p) (upd H1 p (.tup xs))) (fun O H xs ds r Q out hr hg q => ?_) ha q
  obtain ⟨c, rfl⟩ := gd_some hg
  exact ⟨by rw [lim_eq, hr.length]; exact Nat.le_of_ble_eq_true c, fun p hp => q _ _ (prTup out hp hr)⟩
theorem x_lst (ha : allE ss = true) (h : PA X es (LAs X.K M W ss)) : PE X (.List es pos) (LX X.K M W (evPr gLst ss)) := by
  refine peImp (pe_lst h) fun σ H Q q => ?_
  refine disp_ok (ru := fun xs H1 Q => xs.length ≤ sizeLine ∧ ∀ p, H1 p = none → Q (.ref p) (upd H1 p (.lst xs))) (fun O H xs ds r Q out hr hg q => ?_) ha q
  obtain ⟨c, rfl⟩ := gd_some hg
  exact ⟨by rw [lim_eq, hr.length]; exact Nat.le_of_ble_eq_true c, fun p hp => q _ _ (prLst out hp hr)⟩

/-! tests -/
def LT (K : Frag) (M : XM) (W : WX) (f : Ev Bool) : TT := fun σ H Q => ∃ O ρ, EnvR O K σ H ρ ∧ Res K M W O σ ρ H (fun r ρ' => ∀ H', Ext σ ρ H σ ρ' H' → EnvR O K σ H' ρ' → Q r H') (f ρ)
/-- a value's truth -/
def D.tru : D → Option Bool
  | .non => some false
  | .bl b => some b
  | .int i => some (i != 0)
  | .str x => match Nat.ble x.length LIM with
    | true => some ((x.length : Int) != 0)
    | false => none
  | .tup ds => some (!ds.isEmpty)
  | .lst ds => some (!ds.isEmpty)
  | .fls ds => some (!ds.isEmpty)
  | .err _ _ _ => none
  | .obj _ _ _ => none
theorem Reps.emp {O K H} {xs : List V} {ds : List D} (h : Reps O K H xs ds) : xs.isEmpty = ds.isEmpty := by
  cases h <;> rfl
theorem ArgR.tru {O K H} {x : V} {d : D} {b : Bool} (h : ArgR O K H x d) (e : d.tru = some b) : TruV K x H b := by
  cases d with
  | err _ _ _ => cases e
  | obj _ _ _ => cases e
  | non => rw [h.non]; exact (Option.some.inj e).symm
  | bl c => rw [h.bl]; exact (Option.some.inj e).symm
  | int i => rw [h.int]; exact (Option.some.inj e).symm
  | str z =>
    rw [h.str]
    simp only [D.tru] at e
    split at e
    · rename_i c
      exact ⟨by rw [lim_eq]; exact Nat.le_of_ble_eq_true c, (Option.some.inj e).symm⟩
    · cases e
  | tup ds =>
    obtain ⟨a, xs, rfl, t, r, _⟩ := h.tup
    exact .inr (.inl ⟨xs, t.sq, by rw [r.emp]; exact (Option.some.inj e).symm⟩)
  | lst ds =>
    obtain ⟨a, xs, rfl, t, r⟩ := h.lst
    exact .inl ⟨xs, SqL.of t, by rw [r.emp]; exact (Option.some.inj e).symm⟩
  | fls ds =>
    obtain ⟨a, xs, rfl, t, r⟩ := h.fls
    exact .inl ⟨xs, t.sq, by rw [r.emp]; exact (Option.some.inj e).symm⟩
/-- an operand's value as the operation sees it: one late, or an expression's -/
def evT (s : SA) : Ev Bool := (evAs [s]).bind fun rs ρ => match finD ρ rs with
  | some [d] => match d.tru with
    | some b => some (.ok b ρ)
    | none => none
  | _ => none
theorem test_ok {K : Frag} {M : XM} {W : WX} {σ : St} {H : Hp} {s : SA} {Q : Bool → Hp → Prop} (h : LT K M W (evT s) σ H Q) : LA1 K M W s σ H fun x H' => ∃ k, TruV K x H' k ∧ Q k H' := by
  obtain ⟨O, ρ, E, h⟩ := h
  have z : LAs K M W [s] σ H fun xs H' => ∃ x k, xs = [x] ∧ TruV K x H' k ∧ Q k H' := by
    refine args_ok [s] ρ H _ E ?_
    refine (Res.bind (f := evAs [s]) h).mono fun rs ρ1 h1 xs H1 p => ?_
    cases e : finD ρ1 rs with
    | none => simp only [e] at h1; exact h1.elim
    | some ds =>
      simp only [e] at h1
      match ds, h1 with
      | [d], h1 =>
        cases e2 : d.tru with
        | none => simp only [e2] at h1; exact h1.elim
        | some b =>
          simp only [e2] at h1
          obtain ⟨x, rfl, ax⟩ := (fin_ok p.env p.reps e).one
          exact ⟨x, b, rfl, ax.tru e2, h1 H1 p.ext p.env⟩
      | [], h1 => exact h1.elim
      | _ :: _ :: _, h1 => exact h1.elim
  have mono : ∀ (s : SA) (Q Q' : VK), (∀ x H', Q x H' → Q' x H') → LA1 K M W s σ H Q → LA1 K M W s σ H Q' := fun s Q Q' k h => by
    cases s with
    | late i => obtain ⟨v, e, h⟩ := h; exact ⟨v, e, k _ _ h⟩
    | e f =>
      obtain ⟨O, ρ, E, h⟩ := h
      exact ⟨O, ρ, E, h.mono fun r ρ' q x H' p => k _ _ (q x H' p)⟩
  refine mono s _ _ (fun x H' q => ?_) z
  obtain ⟨x', k, e, h1, h2⟩ := q
  cases e
  exact ⟨k, h1, h2⟩
theorem t_val (ha : PArg X M W a sa) (he : ∀ whole, isTrue a X.env whole = (do let v ← whole; standAt a.pos; holding [v] (truthy v))) : PT X a (LT X.K M W (evT sa)) :=
  ptImp (pt_truth ha he) fun _ _ _ h => test_ok h
/-- a comparison as a test -/
def evTB (f : Ev R) : Ev Bool := f.bind fun r ρ => match r.d with
  | .bl b => some (.ok b ρ)
  | _ => none
theorem testB_ok {K : Frag} {M : XM} {W : WX} {σ : St} {H : Hp} {f : Ev R} {Q : Bool → Hp → Prop} (h : LT K M W (evTB f) σ H Q) : LX K M W f σ H fun x H' => ∃ k, x = .bl k ∧ Q k H' := by
  obtain ⟨O, ρ, E, h⟩ := h
  refine ⟨O, ρ, E, ?_⟩
  refine (Res.bind (f := f) h).mono fun r ρ1 h1 x H1 p => ?_
  have rp := p.rep
  match e : r.d with
  | .bl b =>
    rw [e] at rp
    simp only [e] at h1
    cases rp
    exact ⟨b, rfl, h1 H1 p.ext p.env⟩
  | .non | .int _ | .str _ | .tup _ | .lst _ | .fls _ | .err _ _ _ | .obj _ _ _ => simp only [e] at h1; exact h1.elim
theorem t_cmp {op : CmpOp} {r : R2} {g : List D → Option R} (ho : OpR X (compareOp op) r) (hp : PrOk X.K (ru2 r) g) (ha : PArg X M W a sa) (hb : PArg X M W b sb) (hm : behindInMarks op b = false) : PT X (.Compare a [op] [b] pos) (LT X.K M W (evTB (evPr g [sa, sb]))) :=
  ptImp (pt_cmpR ho ha hb hm) fun _ _ _ h => prim_ok hp (testB_ok h)
def evNotT (f : Ev Bool) : Ev Bool := f.bind fun b => Ev.ret (!b)
def evAndT (f g : Ev Bool) : Ev Bool := f.bind fun b => match b with | true => g | false => Ev.ret false
def evOrT (f g : Ev Bool) : Ev Bool := f.bind fun b => match b with | true => Ev.ret true | false => g
theorem t_not {f : Ev Bool} (ha : PT X a (LT X.K M W f)) : PT X (.UnaryOp .Not a pos) (LT X.K M W (evNotT f)) := by
  refine ptImp (pt_not ha) fun σ H Q h => ?_
  obtain ⟨O, ρ, E, h⟩ := h
  exact ⟨O, ρ, E, (Res.bind (f := f) h).mono fun b ρ1 h1 H1 x e => h1 H1 x e⟩
theorem tw_one {op : BoolOp} {f : Ev Bool} (ha : PT X a (LT X.K M W f)) : PW X (.BoolOp op [a] pos) (LT X.K M W f) := by
  cases op with
  | And => exact pw_and1 ha
  | Or => exact pw_or1 ha
theorem tw_and {rest : List Expr} {f g : Ev Bool} (ha : PT X a (LT X.K M W f)) (hb : PW X (.BoolOp .And (b :: rest) pos) (LT X.K M W g)) : PW X (.BoolOp .And (a :: b :: rest) pos) (LT X.K M W (evAndT f g)) := by
  refine pwImp (pw_and ha hb) fun σ H Q h => ?_
  obtain ⟨O, ρ, E, h⟩ := h
  refine ⟨O, ρ, E, (Res.bind (f := f) h).mono fun c ρ1 h1 H1 x e => ?_⟩
  cases c with
  | true => exact ⟨O, ρ1, e, (h1.after x).mono fun c2 ρ2 h2 H2 x2 e2 => h2 H2 (x.trans x2) e2⟩
  | false => exact h1 H1 x e
theorem tw_or {rest : List Expr} {f g : Ev Bool} (ha : PT X a (LT X.K M W f)) (hb : PW X (.BoolOp .Or (b :: rest) pos) (LT X.K M W g)) : PW X (.BoolOp .Or (a :: b :: rest) pos) (LT X.K M W (evOrT f g)) := by
  refine pwImp (pw_or ha hb) fun σ H Q h => ?_
  obtain ⟨O, ρ, E, h⟩ := h
  refine ⟨O, ρ, E, (Res.bind (f := f) h).mono fun c ρ1 h1 H1 x e => ?_⟩
  cases c with
  | false => exact ⟨O, ρ1, e, (h1.after x).mono fun c2 ρ2 h2 H2 x2 e2 => h2 H2 (x.trans x2) e2⟩
  | true => exact h1 H1 x e
end
end L3

/-! E7: further expressions: or, and, not as values, a if c else b, slices, pop. -/
namespace L3
open PySem L2
section
variable {O : Addr → Prop} {K : Frag} {M : XM} {W : WX} {σ : St} {ρ ρ1 ρ2 : Sls} {H H1 H2 : Hp}
theorem Rep.arg {x : V} {d : D} (h : Rep O K H x d) : ArgR O K H x d := .inl h
def evOr (f g : Ev R) : Ev R := f.bind fun r ρ => match r.d.tru with
  | some true => some (.ok r ρ)
  | some false => g ρ
  | none => none
def evAnd (f g : Ev R) : Ev R := f.bind fun r ρ => match r.d.tru with
  | some true => g ρ
  | some false => some (.ok r ρ)
  | none => none
def evNot (f : Ev R) : Ev R := f.bind fun r ρ => match r.d.tru with
  | some b => some (.ok ⟨.bl (!b), false⟩ ρ)
  | none => none
def evIf (t : Ev Bool) (f g : Ev R) : Ev R := t.bind fun b => match b with
  | true => f
  | false => g
/-- reading on from behind an evaluation -/
theorem LX.from {f : Ev R} {Q : VK} (E : EnvR O K σ H1 ρ1) (x : Ext σ ρ H σ ρ1 H1) (h : Res K M W O σ ρ H (fun r ρ' => ∀ x H', Post O K σ ρ H r ρ' x H' → Q x H') (f ρ1)) : LX K M W f σ H1 Q :=
  ⟨O, ρ1, E, (h.after x).mono fun r ρ' q y H' p => q y H' (p.after x)⟩
theorem or_ok {f g : Ev R} {Q : VK} (h : LX K M W (evOr f g) σ H Q) : tOrT K (LX K M W f) (LX K M W g) σ H Q := by
  obtain ⟨O, ρ, E, h⟩ := h
  refine ⟨O, ρ, E, (Res.bind (f := f) h).mono fun r ρ1 h1 x H1 p => ?_⟩
  match e : r.d.tru with
  | none => simp only [e] at h1; exact h1.elim
  | some true =>
    simp only [e] at h1
    exact ⟨true, p.rep.arg.tru e, h1 x H1 p⟩
  | some false =>
    simp only [e] at h1
    exact ⟨false, p.rep.arg.tru e, LX.from p.env p.ext h1⟩
theorem and_ok {f g : Ev R} {Q : VK} (h : LX K M W (evAnd f g) σ H Q) : tAndT K (LX K M W f) (LX K M W g) σ H Q := by
  obtain ⟨O, ρ, E, h⟩ := h
  refine ⟨O, ρ, E, (Res.bind (f := f) h).mono fun r ρ1 h1 x H1 p => ?_⟩
  match e : r.d.tru with
  | none => simp only [e] at h1; exact h1.elim
  | some false =>
    simp only [e] at h1
    exact ⟨false, p.rep.arg.tru e, h1 x H1 p⟩
  | some true =>
    simp only [e] at h1
    exact ⟨true, p.rep.arg.tru e, LX.from p.env p.ext h1⟩
theorem not_ok {f : Ev R} {Q : VK} (h : LX K M W (evNot f) σ H Q) : tNotT K (LX K M W f) σ H Q := by
  obtain ⟨O, ρ, E, h⟩ := h
  refine ⟨O, ρ, E, (Res.bind (f := f) h).mono fun r ρ1 h1 x H1 p => ?_⟩
  match e : r.d.tru with
  | none => simp only [e] at h1; exact h1.elim
  | some b =>
    simp only [e] at h1
    exact ⟨b, p.rep.arg.tru e, h1 _ H1 ⟨p.ext, p.env, .bl _, fun z => nomatch z⟩⟩
theorem if_ok {t : Ev Bool} {f g : Ev R} {Q : VK} (h : LX K M W (evIf t f g) σ H Q) : tIf (LT K M W t) (LX K M W f) (LX K M W g) σ H Q := by
  obtain ⟨O, ρ, E, h⟩ := h
  refine ⟨O, ρ, E, (Res.bind (f := t) h).mono fun b ρ1 h1 H1 x e => ?_⟩
  cases b with
  | true => exact LX.from e x h1
  | false => exact LX.from e x h1

/-! slices -/
def evO : Option (Ev R) → Ev (Option Int)
  | none => Ev.ret none
  | some f => f.bind fun r ρ => match r.d with
    | .int i => some (.ok (some i) ρ)
    | _ => none
def LO (K : Frag) (M : XM) (W : WX) : Option (Ev R) → TO
  | none => fun _ H Q => Q none H
  | some f => tPart (LX K M W f)
theorem part_ok {lo : Option (Ev R)} {Q : Option Int → Hp → Prop} (E : EnvR O K σ H ρ) (h : Res K M W O σ ρ H (fun r ρ' => ∀ H', Ext σ ρ H σ ρ' H' → EnvR O K σ H' ρ' → Q r H') (evO lo ρ)) : LO K M W lo σ H Q := by
  cases lo with
  | none => exact h H .refl E
  | some f =>
    refine ⟨O, ρ, E, (Res.bind (f := f) h).mono fun r ρ1 h1 x H1 p => ?_⟩
    have rp := p.rep
    match e : r.d with
    | .int i =>
      rw [e] at rp
      simp only [e] at h1
      cases rp
      exact ⟨i, rfl, h1 H1 p.ext p.env⟩
    | .non | .bl _ | .str _ | .tup _ | .lst _ | .fls _ | .err _ _ _ | .obj _ _ _ => simp only [e] at h1; exact h1.elim
def evSli (s : SA) (lo hi : Option (Ev R)) : Ev R := (evAs [s]).bind fun rs => (evO lo).bind fun l => (evO hi).bind fun h ρ => match finD ρ rs with
  | some [d] => match gSl l h d with
    | some r => some (.ok r ρ)
    | none => none
  | _ => none
theorem LA1.one {s : SA} {Q : VK} (h : LAs K M W [s] σ H fun xs H' => ∃ x, xs = [x] ∧ Q x H') : LA1 K M W s σ H Q := by
  cases s with
  | late i =>
    obtain ⟨v, e, x, h1, h2⟩ := h
    cases h1
    exact ⟨v, e, h2⟩
  | e f =>
    obtain ⟨O, ρ, E, h⟩ := h
    refine ⟨O, ρ, E, h.mono fun r ρ' q y H' p => ?_⟩
    obtain ⟨x, h1, h2⟩ := q y H' p
    cases h1
    exact h2
theorem ARs.one {xs rs ds} (E : EnvR O K σ H ρ) (h : ARs O K σ ρ H xs rs) (e : finD ρ rs = some [ds]) : ∃ x, xs = [x] ∧ ArgR (Ow O σ ρ) K H x ds := (fin_ok E h e).one
theorem sli_ok {s : SA} {lo hi : Option (Ev R)} {Q : VK} (h : LX K M W (evSli s lo hi) σ H Q) : tSl (rSl2 K) (LA1 K M W s) (LO K M W lo) (LO K M W hi) σ H Q := by
  obtain ⟨O, ρ, E, h⟩ := h
  refine LA1.one (args_ok [s] ρ H _ E ?_)
  have h' := Res.bind (f := evAs [s]) h
  generalize hm : evAs [s] ρ = m at h' ⊢
  match m, h' with
  | some (.ex e ρ'), h' => exact h'
  | some (.ok rs ρ1), h1 =>
    intro xs H1 p
    obtain ⟨r, er⟩ : ∃ r, rs = [r] := by
      cases s with
      | late i =>
        simp only [evAs] at hm
        split at hm
        · cases hm; exact ⟨_, rfl⟩
        · cases hm
      | e f =>
        simp only [evAs, Ev.bind] at hm
        split at hm
        · cases hm
        · simp only [Ev.ret] at hm
          cases hm; exact ⟨_, rfl⟩
        · cases hm
    subst er
    obtain ⟨x, rfl⟩ : ∃ x, xs = [x] := by
      cases p.reps with
      | cons a b => cases b; exact ⟨_, rfl⟩
    refine ⟨x, rfl, ?_⟩
    refine part_ok p.env ?_
    refine (Res.bind (f := evO lo) (Res.after p.ext h1)).mono fun l ρ2 h2 H2 x2 e2 => ?_
    refine part_ok e2 ?_
    refine (Res.bind (f := evO hi) (h2.after x2)).mono fun u ρ3 h3 H3 x3 e3 => ?_
    have ps := ARs.keep (x2.trans x3) p.reps
    match ef : finD ρ3 [r] with
    | none => simp only [ef] at h3; exact h3.elim
    | some [] => simp only [ef] at h3; exact h3.elim
    | some (_ :: _ :: _) => simp only [ef] at h3; exact h3.elim
    | some [d] =>
      simp only [ef] at h3
      match eg : gSl l u d with
      | none => simp only [eg] at h3; exact h3.elim
      | some rr =>
        simp only [eg] at h3
        obtain ⟨y, ey, ay⟩ := ARs.one e3 ps ef
        cases ey
        refine pr_sl (fun a z => e3.owNe z) ay eg fun z H4 q => ?_
        exact h3 z H4 (((prPost_post e3 q).after (x2.trans x3)).after p.ext)
/-- x[::-1] of a list -/
def gRev : List D → Option R
  | [d] => match d.ls with
    | some ds => some ⟨.lst ds.reverse, true⟩
    | none => none
  | _ => none
theorem pr_rev {K : Frag} : PrOk K (ru1 fun x H Q => ∃ a xs, x = V.ref a ∧ SqL K H a xs ∧ ∀ p, H p = none → Q (.ref p) (upd H p (.lst xs.reverse))) gRev := by
  intro O H xs ds r Q out hr hg q
  unfold gRev at hg
  split at hg
  · obtain ⟨x, rfl, h1⟩ := hr.one
    split at hg
    · rename_i es ee
      cases hg
      obtain ⟨a, ys, rfl, hs, hr⟩ := h1.ls ee
      exact ⟨a, ys, rfl, hs, fun p hp => q _ _ (prLst out hp hr.rev)⟩
    · cases hg
  · cases hg

/-! pop -/
def mutable (k : Nat) : Bool := Nat.blt k 2
def evPop (i : Nat) : Ev R := fun ρ => match ρ[i]? with
  | some (.own k ds) => match mutable k, ds.getLast? with
    | true, some d => some (.ok ⟨d, false⟩ (ρ.set i (.own k ds.dropLast)))
    | _, _ => none
  | _ => none
theorem Reps.dropLast {xs : List V} {ds : List D} (h : Reps O K H xs ds) : Reps O K H xs.dropLast ds.dropLast := by
  rw [List.dropLast_eq_take, List.dropLast_eq_take, h.length]
  exact h.take _
theorem pop_ok {i : Nat} {Q : VK} (h : LX K M W (evPop i) σ H Q) : tBM0 K "list" rPop (tVar i) σ H Q := by
  obtain ⟨O, ρ, E, h⟩ := h
  unfold evPop at h
  split at h
  · rename_i k ds e
    split at h
    · rename_i d c1 c2
      obtain ⟨a, xs, h1, h2, h3, h4⟩ := E.own i k ds e
      rw [List.getLast?_eq_getElem?] at c2
      obtain ⟨y, hy, ry⟩ := h3.get c2
      rw [← h3.length] at hy
      obtain ⟨g1, g2, g3⟩ := E.change e (Nat.le_of_ble_eq_true c1) h1 h3.dropLast
      refine ⟨_, h1, .inl ⟨rfl, _, SqL.of h2⟩, a, xs, y, rfl, rfl, h2, hy, ?_⟩
      exact h y _ ⟨g1, g2, Rep.keep g3 _ _ ry, fun z => nomatch z⟩
    · exact h.elim
  · exact h.elim
theorem Reps.erase {xs : List V} : ∀ {ds : List D} (n : Nat), Reps O K H xs ds → Reps O K H (xs.eraseIdx n) (ds.eraseIdx n) := by
  induction xs with
  | nil => intro ds n h; cases h; exact .nil
  | cons x xs ih =>
    intro ds n h
    cases h with
    | cons r rs =>
      cases n with
      | zero => exact rs
      | succ n => exact .cons r (ih n rs)
end
end L3

/-! E8: targets, small statements, if. -/
namespace L3
open PySem L2

/-- a value in hand: from the start (σ0, ρ0, H0) to here -/
structure RPost (O : Addr → Prop) (K : Frag) (σ0 : St) (ρ0 : Sls) (H0 : Hp) (r : R) (ρ : Sls) (x : V) (σ : St) (H : Hp) : Prop where
  ext : Ext σ0 ρ0 H0 σ ρ H
  env : EnvR O K σ H ρ
  rep : Rep (Ow O σ ρ) K H x r.d
  fr : r.fr = true → ∃ p xs ds, x = .ref p ∧ r.d = .lst ds ∧ H0 p = none ∧ H p = some (.lst xs) ∧ Reps (Ow (fun a => O a ∨ a = p) σ ρ) K H xs ds ∧ EnvR (fun a => O a ∨ a = p) K σ H ρ
inductive SOut where
  | nx (ρ : Sls) | rt (r : R) (ρ : Sls) | ro (i : Nat) (ρ : Sls) | bk (ρ : Sls) | ct (ρ : Sls) | ex (e : Exc) (ρ : Sls)
abbrev EvS := Sls → Option SOut
structure SPost (O : Addr → Prop) (K : Frag) (σ0 : St) (ρ0 : Sls) (H0 : Hp) (ρ : Sls) (σ : St) (H : Hp) : Prop where
  ext : Ext σ0 ρ0 H0 σ ρ H
  env : EnvR O K σ H ρ
/-- what is so of a statement's outcome -/
def SRes (K : Frag) (M : XM) (W : WX) (O : Addr → Prop) (σ : St) (ρ : Sls) (H : Hp) (D : Ends) : Option SOut → Prop
  | none => False
  | some (.nx ρ') => ∀ σ' H', SPost O K σ ρ H ρ' σ' H' → D.nx σ' H'
  | some (.bk ρ') => ∀ σ' H', SPost O K σ ρ H ρ' σ' H' → D.bk σ' H'
  | some (.ct ρ') => ∀ σ' H', SPost O K σ ρ H ρ' σ' H' → D.ct σ' H'
  | some (.rt r ρ') => ∀ x σ' H', RPost O K σ ρ H r ρ' x σ' H' → D.rt x H'
  | some (.ro i ρ') => ∀ x σ' H', SPost O K σ ρ H ρ' σ' H' → σ'[i]? = some (some x) → (∃ ds : List L3.D, ρ'[i]? = some (Slot.own 0 ds)) → D.rt x H'
  | some (.ex e ρ') => ∀ cls d σ' H', XPost O K M σ ρ H e ρ' cls d σ' H' → W cls d σ' H'
def LS (K : Frag) (M : XM) (W : WX) (f : EvS) : TS := fun D σ H => ∃ O ρ, EnvR O K σ H ρ ∧ SRes K M W O σ ρ H D (f ρ)
section
variable {O : Addr → Prop} {K : Frag} {M : XM} {W : WX} {σ σ0 σ1 σ2 : St} {ρ ρ0 ρ1 ρ2 : Sls} {H H0 H1 H2 : Hp}
theorem Post.rp {r : R} {x : V} (p : Post O K σ ρ H r ρ1 x H1) : RPost O K σ ρ H r ρ1 x σ H1 := ⟨p.ext, p.env, p.rep, p.fr⟩
theorem RPost.after {r : R} {x : V} (a : Ext σ0 ρ0 H0 σ1 ρ1 H1) (p : RPost O K σ1 ρ1 H1 r ρ x σ H) : RPost O K σ0 ρ0 H0 r ρ x σ H :=
  ⟨a.trans p.ext, p.env, p.rep, fun h => by
    obtain ⟨q, xs, ds, h1, h2, h3, h4, h5⟩ := p.fr h
    refine ⟨q, xs, ds, h1, h2, ?_, h4, h5⟩
    by_cases n : H0 q = none
    · exact n
    · exact absurd h3 (a.trk q n)⟩
theorem SPost.after (a : Ext σ0 ρ0 H0 σ1 ρ1 H1) (p : SPost O K σ1 ρ1 H1 ρ σ H) : SPost O K σ0 ρ0 H0 ρ σ H := ⟨a.trans p.ext, p.env⟩
theorem SRes.after {D : Ends} {m : Option SOut} (a : Ext σ ρ H σ1 ρ1 H1) (h : SRes K M W O σ ρ H D m) : SRes K M W O σ1 ρ1 H1 D m := by
  match m, h with
  | some (.nx ρ'), h => exact fun σ' H' p => h σ' H' (p.after a)
  | some (.bk ρ'), h => exact fun σ' H' p => h σ' H' (p.after a)
  | some (.ct ρ'), h => exact fun σ' H' p => h σ' H' (p.after a)
  | some (.rt r ρ'), h => exact fun x σ' H' p => h x σ' H' (p.after a)
  | some (.ro i ρ'), h => exact fun x σ' H' p => h x σ' H' (p.after a)
  | some (.ex e ρ'), h => exact fun cls d σ' H' p => h cls d σ' H' (p.after a)

/-! targets -/
abbrev TgE := R → Sls → Option Sls
/-- which slots a target may store to -/
abbrev SlZ := Nat → Bool
def Same3 (z : SlZ) (σ σ' : St) : Prop := σ'.length = σ.length ∧ ∀ i, z i = false → σ'[i]? = σ[i]?
theorem Same3.refl {z : SlZ} {σ : St} : Same3 z σ σ := ⟨rfl, fun _ _ => rfl⟩
theorem Same3.trans {z : SlZ} {σ σ1 σ2 : St} (a : Same3 z σ σ1) (b : Same3 z σ1 σ2) : Same3 z σ σ2 := ⟨b.1.trans a.1, fun i h => (b.2 i h).trans (a.2 i h)⟩
theorem Same3.set {z : SlZ} {σ : St} {i : Nat} {x : Option V} (h : z i = true) : Same3 z σ (σ.set i x) := ⟨List.length_set, fun j hj => List.getElem?_set_ne fun e => by rw [e] at h; rw [h] at hj; cases hj⟩
def LG (K : Frag) (z : SlZ) (g : TgE) : TG := fun v σ H Q => ∃ O σ0 ρ0 H0 ρ r, (∀ a, O a → H0 a ≠ none) ∧ RPost O K σ0 ρ0 H0 r ρ v σ H ∧ ∃ ρ', g r ρ = some ρ' ∧ ∀ σ' H', SPost O K σ0 ρ0 H0 ρ' σ' H' → Same3 z σ σ' → Q σ' H'
def LGs (K : Frag) (z : SlZ) (g : List D → Sls → Option Sls) : TGs := fun vs σ H Q => ∃ O σ0 ρ0 H0 ρ ds, (∀ a, O a → H0 a ≠ none) ∧ SPost O K σ0 ρ0 H0 ρ σ H ∧ Reps (Ow O σ ρ) K H vs ds ∧ ∃ ρ', g ds ρ = some ρ' ∧ ∀ σ' H', SPost O K σ0 ρ0 H0 ρ' σ' H' → Same3 z σ σ' → Q σ' H'
/-- may slot i be stored to? -/
def free (ρ : Sls) (i : Nat) : Bool := match ρ[i]? with
  | none => false
  | some (.own k _) => Nat.beq k 0
  | some _ => true
def asgSl (i : Nat) : TgE := fun r ρ => match free ρ i with
  | false => none
  | true => match r.fr, r.d with
    | true, .lst ds => some (ρ.set i (.own 0 ds))
    | _, d => some (ρ.set i (.v d))
theorem setSt {σ : St} {i j : Nat} {x : V} (h : i < σ.length) : (σ.set i (some x))[j]? = if j = i then some (some x) else σ[j]? := by
  by_cases e : j = i
  · subst e; rw [if_pos rfl, List.getElem?_set_self h]
  · rw [if_neg e, List.getElem?_set_ne (Ne.symm e)]
theorem free_of {i : Nat} (h : free ρ i = true) : i < ρ.length ∧ ∀ (k : Nat) (ds : List D), ρ[i]? = some (.own k ds) → k = 0 := by
  unfold free at h
  split at h
  · cases h
  · rename_i k ds e
    exact ⟨(List.getElem?_eq_some_iff.mp e).1, fun k' ds' e' => by rw [e] at e'; cases e'; exact Nat.eq_of_beq_eq_true h⟩
  · rename_i s hs e
    exact ⟨(List.getElem?_eq_some_iff.mp e).1, fun k' ds' e' => by rw [e] at e'; cases e'; exact absurd rfl (hs k' ds')⟩
/-- slot i gets a value -/
theorem EnvR.setV {i : Nat} {x : V} {d : D} (E : EnvR O K σ H ρ) (hf : free ρ i = true) (r : Rep (Ow O σ ρ) K H x d) :
    Ext σ ρ H (σ.set i (some x)) (ρ.set i (.v d)) H ∧ EnvR O K (σ.set i (some x)) H (ρ.set i (.v d)) := by
  obtain ⟨hl, hk⟩ := free_of hf
  have hs : i < σ.length := by rw [E.len]; exact hl
  have own' : ∀ j b, OwnAt (σ.set i (some x)) (ρ.set i (.v d)) j b → OwnAt σ ρ j b ∧ j ≠ i := fun j b ⟨⟨k', es, e1⟩, e2⟩ => by
    rcases get_set e1 with ⟨_, z⟩ | ⟨z1, z2⟩
    · cases z
    · rw [setSt hs, if_neg z1] at e2
      exact ⟨⟨⟨k', es, z2⟩, e2⟩, z1⟩
  have less : ∀ b, Ow O (σ.set i (some x)) (ρ.set i (.v d)) b → Ow O σ ρ b := fun b z => z.elim .inl fun ⟨j, z⟩ => .inr ⟨j, (own' j b z).1⟩
  have kp := Keep.less (H := H) less
  refine ⟨⟨fun _ _ _ => rfl, fun j b z => .inl ⟨j, (own' j b z).1⟩, fun _ n => n, fun j k es hk' z => ?_, fun j k es hk' z => ?_⟩, ⟨by rw [List.length_set, List.length_set]; exact E.len, fun j d' e => ?_, fun j k' es e => ?_, fun j l b z1 z2 => E.inj j l b (own' j b z1).1 (own' l b z2).1, E.out⟩⟩
  · have ne : j ≠ i := fun q => by subst q; have := hk _ _ z; omega
    exact ⟨by rw [List.getElem?_set_ne (Ne.symm ne)]; exact z, by rw [setSt hs, if_neg ne]⟩
  · have ne : j ≠ i := fun q => by subst q; have := hk _ _ z; omega
    exact ⟨⟨es, by rw [List.getElem?_set_ne (Ne.symm ne)]; exact z⟩, by rw [setSt hs, if_neg ne]⟩
  · rcases get_set e with ⟨rfl, z⟩ | ⟨zn, z⟩
    · cases z
      exact ⟨x, by rw [setSt hs, if_pos rfl], Rep.keep kp _ _ r⟩
    · obtain ⟨y, g1, g2⟩ := E.val j d' z
      exact ⟨y, by rw [setSt hs, if_neg zn]; exact g1, Rep.keep kp _ _ g2⟩
  · rcases get_set e with ⟨rfl, z⟩ | ⟨zn, z⟩
    · cases z
    · obtain ⟨b, ys, g1, g2, g3, g4⟩ := E.own j k' es z
      exact ⟨b, ys, by rw [setSt hs, if_neg zn]; exact g1, g2, Reps.keep kp _ _ g3, g4⟩
/-- slot i gets a list of its own -/
theorem EnvR.setOwn {i : Nat} {p : Addr} {xs : List V} {ds : List D} (out : ∀ a, O a → H0 a ≠ none) (E : EnvR (fun a => O a ∨ a = p) K σ H ρ) (E0 : EnvR O K σ H ρ) (X : Ext σ0 ρ0 H0 σ ρ H) (hf : free ρ i = true) (h0 : H0 p = none) (hp : H p = some (.lst xs)) (r : Reps (Ow (fun a => O a ∨ a = p) σ ρ) K H xs ds) :
    SPost O K σ0 ρ0 H0 (ρ.set i (.own 0 ds)) (σ.set i (some (.ref p))) H := by
  obtain ⟨hl, hk⟩ := free_of hf
  have hs : i < σ.length := by rw [E.len]; exact hl
  have own' : ∀ j b, OwnAt (σ.set i (some (.ref p))) (ρ.set i (.own 0 ds)) j b → (j = i ∧ b = p) ∨ (OwnAt σ ρ j b ∧ j ≠ i) := fun j b ⟨⟨k', es, e1⟩, e2⟩ => by
    rcases get_set e1 with ⟨z, _⟩ | ⟨z1, z2⟩
    · rw [setSt hs, if_pos z] at e2
      cases e2
      exact .inl ⟨z, rfl⟩
    · rw [setSt hs, if_neg z1] at e2
      exact .inr ⟨⟨⟨k', es, z2⟩, e2⟩, z1⟩
  have less : ∀ b, Ow O (σ.set i (some (.ref p))) (ρ.set i (.own 0 ds)) b → Ow (fun a => O a ∨ a = p) σ ρ b := fun b z => by
    rcases z with z | ⟨j, z⟩
    · exact .inl (.inl z)
    · rcases own' j b z with ⟨_, z⟩ | ⟨z, _⟩
      · exact .inl (.inr z)
      · exact .inr ⟨j, z⟩
  have kp := Keep.less (H := H) less
  refine ⟨⟨X.keep, fun j b z => ?_, X.trk, fun j k es hk' z => ?_, fun j k es hk' z => ?_⟩, ⟨by rw [List.length_set, List.length_set]; exact E.len, fun j d' e => ?_, fun j k' es e => ?_, fun j l b z1 z2 => ?_, E0.out⟩⟩
  · rcases own' j b z with ⟨_, z⟩ | ⟨z, _⟩
    · exact .inr (z ▸ h0)
    · exact X.grow j b z
  · obtain ⟨z1, z2⟩ := X.lck j k es hk' z
    have ne : j ≠ i := fun q => by subst q; have := hk _ _ z1; omega
    exact ⟨by rw [List.getElem?_set_ne (Ne.symm ne)]; exact z1, by rw [setSt hs, if_neg ne]; exact z2⟩
  · obtain ⟨⟨es', z1⟩, z2⟩ := X.bor j k es hk' z
    have ne : j ≠ i := fun q => by subst q; have := hk _ _ z1; omega
    exact ⟨⟨es', by rw [List.getElem?_set_ne (Ne.symm ne)]; exact z1⟩, by rw [setSt hs, if_neg ne]; exact z2⟩
  · rcases get_set e with ⟨rfl, z⟩ | ⟨zn, z⟩
    · cases z
    · obtain ⟨y, g1, g2⟩ := E.val j d' z
      exact ⟨y, by rw [setSt hs, if_neg zn]; exact g1, Rep.keep kp _ _ g2⟩
  · rcases get_set e with ⟨rfl, z⟩ | ⟨zn, z⟩
    · cases z
      exact ⟨p, xs, by rw [setSt hs, if_pos rfl], hp, Reps.keep kp _ _ r, fun q => out p q h0⟩
    · obtain ⟨b, ys, g1, g2, g3, g4⟩ := E.own j k' es z
      exact ⟨b, ys, by rw [setSt hs, if_neg zn]; exact g1, g2, Reps.keep kp _ _ g3, fun q => g4 (.inl q)⟩
  · have no : ∀ m, OwnAt σ ρ m p → False := fun m ⟨⟨k', es, e1⟩, e2⟩ => by
      obtain ⟨b, ys, g1, g2, g3, g4⟩ := E.own m k' es e1
      rw [e2] at g1; cases g1
      exact g4 (.inr rfl)
    rcases own' j b z1 with ⟨q1, q2⟩ | ⟨q1, q2⟩ <;> rcases own' l b z2 with ⟨q3, q4⟩ | ⟨q3, q4⟩
    · rw [q1, q3]
    · subst q2; exact (no _ q3).elim
    · subst q4; exact (no _ q1).elim
    · exact E.inj j l b q1 q3
theorem asg_ok {i : Nat} {r : R} {x : V} (out : ∀ a, O a → H0 a ≠ none) (p : RPost O K σ0 ρ0 H0 r ρ x σ H) (e : asgSl i r ρ = some ρ1) : SPost O K σ0 ρ0 H0 ρ1 (σ.set i (some x)) H := by
  unfold asgSl at e
  split at e
  · cases e
  · rename_i hf
    split at e
    · rename_i ds f1 f2
      cases e
      obtain ⟨q, xs, es, rfl, h2, h3, h4, h5, h6⟩ := p.fr f1
      rw [h2] at f2; cases f2
      exact EnvR.setOwn out h6 p.env p.ext hf h3 h4 h5
    · cases e
      obtain ⟨z1, z2⟩ := p.env.setV hf p.rep
      exact ⟨p.ext.trans z1, z2⟩
end
section
variable {X : Cx} {M : XM} {W : WX} {pos : Pos}
theorem pgImp {tg : Expr} {t t' : TG} (h : PG X tg t) (k : ∀ v σ H Q, t' v σ H Q → t v σ H Q) : PG X tg t' := ⟨fun pins s σ H v u Q I r q => h.run pins s σ H v u Q I r (k v σ H Q q)⟩
theorem pgsImp {tg : List Expr} {t t' : TGs} (h : PGs X tg t) (k : ∀ v σ H Q, t' v σ H Q → t v σ H Q) : PGs X tg t' := ⟨fun pins s σ H v u Q I r q => h.run pins s σ H v u Q I r (k v σ H Q q)⟩
theorem PG.or {tg : Expr} {t t' : TG} (h : PG X tg t) (h' : PG X tg t') : PG X tg (fun v σ H Q => t v σ H Q ∨ t' v σ H Q) := ⟨fun pins s σ H v u Q I r q => q.elim (h.run pins s σ H v u Q I r) (h'.run pins s σ H v u Q I r)⟩
theorem g_name {z : SlZ} {i : Nat} {x : Str} (hz : z i = true) (hN : X.N.Nodup) (hi : X.N[i]? = some x) (hx : Loc X.env.scope x) (hf : X.fn x = true ∨ X.env.scope.names.lookup x = some .local) : PG X (.Name x pos) (LG X.K z (asgSl i)) := by
  refine pgImp (pg_name hN hi hx hf) fun v σ H Q h => ?_
  obtain ⟨O, σ0, ρ0, H0, ρ, r, out, p, ρ', e, q⟩ := h
  exact q _ _ (asg_ok out p e) (Same3.set hz)
/-- several targets -/
def asgNil : List D → Sls → Option Sls
  | [], ρ => some ρ
  | _, _ => none
def asgCons (g : TgE) (gs : List D → Sls → Option Sls) : List D → Sls → Option Sls
  | d :: ds, ρ => match g ⟨d, false⟩ ρ with
    | some ρ' => gs ds ρ'
    | none => none
  | [], _ => none
theorem gs_nil {z : SlZ} : PGs X [] (LGs X.K z asgNil) := by
  refine pgsImp pgs_nil fun vs σ H Q h => ?_
  obtain ⟨O, σ0, ρ0, H0, ρ, ds, out, p, rs, ρ', e, q⟩ := h
  unfold asgNil at e
  split at e
  · cases e
    cases rs
    exact ⟨rfl, q _ _ p .refl⟩
  · cases e
theorem gs_cons {z : SlZ} {a : Expr} {es : List Expr} {g : TgE} {gs : List D → Sls → Option Sls} (h1 : PG X a (LG X.K z g)) (h2 : PGs X es (LGs X.K z gs))
    (hs : (assignEach (a :: es) X.env).map (·.2) = assign a X.env :: (assignEach es X.env).map (·.2)) : PGs X (a :: es) (LGs X.K z (asgCons g gs)) := by
  refine pgsImp (pgs_cons h1 h2 hs) fun vs σ H Q h => ?_
  obtain ⟨O, σ0, ρ0, H0, ρ, ds, out, p, rs, ρ', e, q⟩ := h
  cases ds with
  | nil => cases e
  | cons d ds =>
    simp only [asgCons] at e
    split at e
    · rename_i ρ1 e1
      cases rs with
      | cons r rs =>
        refine ⟨_, _, rfl, O, σ, ρ, H, ρ, ⟨d, false⟩, p.env.out, ⟨.refl, p.env, r, fun z => nomatch z⟩, ρ1, e1, fun σ1 H1 p1 s1 => ?_⟩
        refine ⟨O, σ0, ρ0, H0, ρ1, ds, out, ⟨p.ext.trans p1.ext, p1.env⟩, Reps.keep p1.ext.kp _ _ rs, ρ', e, fun σ' H' p' s' => q σ' H' p' (s1.trans s')⟩
    · cases e
/-- a tuple of targets: a tuple, a list of as many -/
def asgTup (n : Nat) (gs : List D → Sls → Option Sls) : TgE := fun r ρ => match r.d.sq with
  | some ds => match Nat.beq ds.length n with
    | true => gs ds ρ
    | false => none
  | none => none
theorem LGs.of {z : SlZ} {K : Frag} {O : Addr → Prop} {σ0 σ : St} {ρ0 ρ ρ' : Sls} {H0 H : Hp} {r : R} {x : V} {a : Addr} {xs : List V} {ds : List D} {gs : List D → Sls → Option Sls} {Q : St → Hp → Prop} (out : ∀ a, O a → H0 a ≠ none) (p : RPost O K σ0 ρ0 H0 r ρ x σ H) (hr : Reps (Ow O σ ρ) K H xs ds) (e : gs ds ρ = some ρ')
    (q : ∀ σ' H', SPost O K σ0 ρ0 H0 ρ' σ' H' → Same3 z σ σ' → Q σ' H') : LGs K z gs xs σ H Q := ⟨O, σ0, ρ0, H0, ρ, ds, out, ⟨p.ext, p.env⟩, hr, ρ', e, q⟩
theorem g_tup {z : SlZ} {es : List Expr} {k n : Nat} {gs : List D → Sls → Option Sls} (hc : X.calm = true) (h : PGs X es (LGs X.K z gs)) (hn : (assignEach es X.env).length = n) (hst : (assignEach es X.env).findIdx? (fun x => x.1) = none) :
    PG X (.Tuple es k pos) (LG X.K z (asgTup n gs)) := by
  refine pgImp (PG.or (pg_tup hc h hn hst) (pg_lst hc h hn hst)) fun v σ H Q hh => ?_
  obtain ⟨O, σ0, ρ0, H0, ρ, r, out, p, ρ', e, q⟩ := hh
  unfold asgTup at e
  split at e
  · rename_i ds ed
    split at e
    · rename_i hb
      have hb := Nat.eq_of_beq_eq_true hb
      obtain ⟨a, xs, rfl, hs, hr⟩ := p.rep.arg.sq ed
      rcases hs with hs | hs
      · exact .inr ⟨a, xs, rfl, hs, by rw [hr.length]; exact hb, LGs.of (a := a) out p hr e q⟩
      · exact .inl ⟨a, xs, rfl, hs, by rw [hr.length]; exact hb, LGs.of (a := a) out p hr e q⟩
    · cases e
  · cases e

/-! statements -/
def sSet (g : TgE) (f : Ev R) : EvS := fun ρ => match f ρ with
  | none => none
  | some (.ex e ρ') => some (.ex e ρ')
  | some (.ok r ρ') => (g r ρ').map .nx
theorem set_ok {z : SlZ} {K : Frag} {σ : St} {H : Hp} {g : TgE} {f : Ev R} {D : Ends} (h : LS K M W (sSet g f) D σ H) : tAsg (LX K M W f) (LG K z g) D σ H := by
  obtain ⟨O, ρ, E, h⟩ := h
  refine ⟨O, ρ, E, ?_⟩
  unfold sSet at h
  revert h
  generalize f ρ = m
  intro h
  match m, h with
  | some (.ex e ρ'), h => exact fun cls d H' p => h cls d σ H' p
  | some (.ok r ρ'), h =>
    intro x H' p
    cases eg : g r ρ' with
    | none => simp only [eg, Option.map_none] at h; exact h.elim
    | some ρ2 =>
      simp only [eg, Option.map_some] at h
      exact ⟨O, σ, ρ, H, ρ', r, E.out, p.rp, ρ2, eg, fun σ' H' p' _ => h σ' H' p'⟩
theorem s_set {i : Nat} {x : Str} {e : Expr} {f : Ev R} {pos' : Pos} (hN : X.N.Nodup) (hi : X.N[i]? = some x) (hx : Loc X.env.scope x) (he : PE X e (LX X.K M W f)) (hs : swapsWith e (some (.Name x pos')) pos.line X.env = pure false) (hf : X.fn x = true ∨ X.env.scope.names.lookup x = some .local) :
    PS X (.Assign [.Name x pos'] e pos) (LS X.K M W (sSet (asgSl i) f)) := by
  refine psImp (ps_set hN hi hx he hs hf) fun D σ H h => ?_
  have h' := set_ok (z := fun j => Nat.beq j i) h
  obtain ⟨O, ρ, E, h'⟩ := h'
  refine ⟨O, ρ, E, h'.mono fun r ρ' q y H' p => ?_⟩
  obtain ⟨O, σ0, ρ0, H0, ρ, r, out, p, ρ', e, q⟩ := q y H' p
  exact q _ _ (asg_ok out p e) (Same3.set (Nat.beq_refl i))
theorem s_asg {z : SlZ} {tg e : Expr} {g : TgE} {f : Ev R} (he : PE X e (LX X.K M W f)) (hg : PG X tg (LG X.K z g)) (hs : swapsWithSole [tg] e pos.line X.env = pure false) (hw : swappedStores [tg] e X.env = pure none)
    (h1 : (assignEach [tg] X.env).map (fun x => x.2) = [assign tg X.env]) : PS X (.Assign [tg] e pos) (LS X.K M W (sSet g f)) :=
  psImp (ps_asg he hg hs hw h1) fun D σ H h => set_ok h
/-- a, b = x, y (plain local names): both values, then the stores -/
def sPar (i j : Nat) (f g : Ev R) : EvS := fun ρ => match evAs [.e f, .e g] ρ with
  | none => none
  | some (.ex e ρ') => some (.ex e ρ')
  | some (.ok rs ρ') => match finD ρ' rs with
    | some [c, d] => match asgSl i ⟨c, false⟩ ρ' with
      | some ρ2 => (asgSl j ⟨d, false⟩ ρ2).map .nx
      | none => none
    | _ => none
theorem par_ok {K : Frag} {σ : St} {H : Hp} {i j : Nat} {f g : Ev R} {D : Ends} (h : LS K M W (sPar i j f g) D σ H) : tPar i j (LAs K M W [.e f, .e g]) D σ H := by
  obtain ⟨O, ρ, E, h⟩ := h
  refine args_ok _ ρ H _ E ?_
  unfold sPar at h
  revert h
  generalize hm : evAs [.e f, .e g] ρ = m
  intro h
  match m, h with
  | some (.ex e ρ'), h => exact fun cls d H' p => h cls d σ H' p
  | some (.ok rs ρ'), h =>
    intro xs H' p
    simp only at h
    split at h
    · rename_i c d ef
      obtain ⟨x, y, rfl⟩ : ∃ x y, xs = [x, y] := by
        obtain ⟨x, y, e, _⟩ := (fin_ok p.env p.reps ef).two
        exact ⟨x, y, e⟩
      have rs' := p.reps.allR (ss := [.e f, .e g]) rfl ⟨_, _, hm⟩ ef
      cases rs' with
      | cons r1 r2 =>
        cases r2 with
        | cons r2 _ =>
          cases e1 : asgSl i ⟨c, false⟩ ρ' with
          | none => simp only [e1] at h; exact h.elim
          | some ρ2 =>
            simp only [e1] at h
            cases e2 : asgSl j ⟨d, false⟩ ρ2 with
            | none => simp only [e2, Option.map_none] at h; exact h.elim
            | some ρ3 =>
              simp only [e2, Option.map_some] at h
              have p1 := asg_ok (r := ⟨c, false⟩) (ρ0 := ρ') (σ0 := σ) (H0 := H') p.env.out ⟨.refl, p.env, r1, fun z => nomatch z⟩ e1
              have p2 := asg_ok (r := ⟨d, false⟩) p1.env.out ⟨.refl, p1.env, Rep.keep p1.ext.kp _ _ r2, fun z => nomatch z⟩ e2
              exact ⟨x, y, rfl, h _ _ ⟨(p.ext.trans p1.ext).trans p2.ext, p2.env⟩⟩
    · exact h.elim
def sExpr (f : Ev R) : EvS := fun ρ => match f ρ with
  | none => none
  | some (.ex e ρ') => some (.ex e ρ')
  | some (.ok r ρ') => some (.nx ρ')
theorem s_expr {e : Expr} {f : Ev R} (he : PE X e (LX X.K M W f)) (hs : swapsWith e none pos.line X.env = pure false) : PS X (.Expr e pos) (LS X.K M W (sExpr f)) := by
  refine psImp (ps_expr he hs) fun D σ H h => ?_
  obtain ⟨O, ρ, E, h⟩ := h
  refine ⟨O, ρ, E, ?_⟩
  unfold sExpr at h
  revert h
  generalize f ρ = m
  intro h
  match m, h with
  | some (.ex e ρ'), h => exact fun cls d H' p => h cls d σ H' p
  | some (.ok r ρ'), h => exact fun x H' p => h σ H' ⟨p.ext, p.env⟩
def sRet (f : Ev R) : EvS := fun ρ => match f ρ with
  | none => none
  | some (.ex e ρ') => some (.ex e ρ')
  | some (.ok r ρ') => some (.rt r ρ')
theorem s_ret {e : Expr} {f : Ev R} (he : PE X e (LX X.K M W f)) : PS X (.Return (some e) pos) (LS X.K M W (sRet f)) := by
  refine psImp (ps_ret he) fun D σ H h => ?_
  obtain ⟨O, ρ, E, h⟩ := h
  refine ⟨O, ρ, E, ?_⟩
  unfold sRet at h
  revert h
  generalize f ρ = m
  intro h
  match m, h with
  | some (.ex e ρ'), h => exact fun cls d H' p => h cls d σ H' p
  | some (.ok r ρ'), h => exact fun x H' p => h x σ H' p.rp
/-- a name's list of one's own is handed on whole -/
def sRetSl (i : Nat) : EvS := fun ρ => match ρ[i]? with
  | some (.v d) => some (.rt ⟨d, false⟩ ρ)
  | some (.own 0 ds) => some (.ro i ρ)
  | _ => none
theorem s_retSl {i : Nat} {x : Str} {p : Pos} (hN : X.N[i]? = some x) (hv : Vis X.env.scope x) (hd : (x == ("__debug__" : Str)) = false) (hcd : (x == ("__classdict__" : Str)) = false) : PS X (.Return (some (.Name x p)) pos) (LS X.K M W (sRetSl i)) := by
  refine psImp (ps_ret (pe_var hN hv hd hcd)) fun D σ H h => ?_
  obtain ⟨O, ρ, E, h⟩ := h
  unfold sRetSl at h
  split at h
  · rename_i d e
    obtain ⟨y, h1, h2⟩ := E.val i d e
    exact ⟨y, h1, h y σ H ⟨.refl, E, h2, fun z => nomatch z⟩⟩
  · rename_i ds e
    obtain ⟨a, xs, h1, h2, h3, h4⟩ := E.own i 0 ds e
    exact ⟨_, h1, h _ σ H ⟨.refl, E⟩ h1 ⟨ds, e⟩⟩
  · exact h.elim
def sRetN : EvS := fun ρ => some (.rt ⟨.non, false⟩ ρ)
theorem s_retN : PS X (.Return none pos) (LS X.K M W sRetN) := psImp ps_retN fun D σ H ⟨O, ρ, E, h⟩ => h .non σ H ⟨.refl, E, .non, fun z => nomatch z⟩
def sNx : EvS := fun ρ => some (.nx ρ)
def sBk : EvS := fun ρ => some (.bk ρ)
def sCt : EvS := fun ρ => some (.ct ρ)
theorem s_pass : PS X (.Pass pos) (LS X.K M W sNx) := psImp ps_pass fun D σ H ⟨O, ρ, E, h⟩ => h σ H ⟨.refl, E⟩
theorem s_break : PS X (.Break pos) (LS X.K M W sBk) := psImp ps_break fun D σ H ⟨O, ρ, E, h⟩ => h σ H ⟨.refl, E⟩
theorem s_continue : PS X (.Continue pos) (LS X.K M W sCt) := psImp ps_continue fun D σ H ⟨O, ρ, E, h⟩ => h σ H ⟨.refl, E⟩
theorem s_doc {x : Str} {j : Nat} {pos' : Pos} : PS X (.Expr (.Constant (.str x) j pos) pos') (LS X.K M W sNx) := psImp ps_doc fun D σ H ⟨O, ρ, E, h⟩ => h σ H ⟨.refl, E⟩
theorem ss_nil : PSs X [] (LS X.K M W sNx) := pssImp pss_nil fun D σ H ⟨O, ρ, E, h⟩ => h σ H ⟨.refl, E⟩
def sSeq (f g : EvS) : EvS := fun ρ => match f ρ with
  | some (.nx ρ') => g ρ'
  | m => m
theorem ss_cons {s : Stmt} {rest : List Stmt} {f g : EvS} (h1 : PS X s (LS X.K M W f)) (h2 : PSs X rest (LS X.K M W g)) : PSs X (s :: rest) (LS X.K M W (sSeq f g)) := by
  refine pssImp (pss_cons h1 h2) fun D σ H h => ?_
  obtain ⟨O, ρ, E, h⟩ := h
  refine ⟨O, ρ, E, ?_⟩
  unfold sSeq at h
  revert h
  generalize f ρ = m
  intro h
  match m, h with
  | some (.nx ρ'), h => exact fun σ' H' p => ⟨O, ρ', p.env, SRes.after p.ext h⟩
  | some (.bk ρ'), h => exact h
  | some (.ct ρ'), h => exact h
  | some (.rt r ρ'), h => exact h
  | some (.ro i ρ'), h => exact h
  | some (.ex e ρ'), h => exact h
def sIf (t : Ev Bool) (f g : EvS) : EvS := fun ρ => match t ρ with
  | none => none
  | some (.ex e ρ') => some (.ex e ρ')
  | some (.ok true ρ') => f ρ'
  | some (.ok false ρ') => g ρ'
theorem s_if {c : Expr} {a b : List Stmt} {t : Ev Bool} {f g : EvS} (hc : PT X c (LT X.K M W t)) (ha : PSs X a (LS X.K M W f)) (hb : PSs X b (LS X.K M W g)) : PS X (.If c a b pos) (LS X.K M W (sIf t f g)) := by
  refine psImp (ps_if hc ha hb) fun D σ H h => ?_
  obtain ⟨O, ρ, E, h⟩ := h
  refine ⟨O, ρ, E, ?_⟩
  unfold sIf at h
  revert h
  generalize t ρ = m
  intro h
  match m, h with
  | some (.ex e ρ'), h => exact fun cls d H' p => h cls d σ H' p
  | some (.ok true ρ'), h => exact fun H' x e => ⟨O, ρ', e, h.after x⟩
  | some (.ok false ρ'), h => exact fun H' x e => ⟨O, ρ', e, h.after x⟩
end
end L3

/-! E9: while, for. -/
namespace L3
open PySem L2

def sWhile (t : Ev Bool) (body : EvS) : Nat → EvS
  | 0, _ => none
  | n + 1, ρ => match t ρ with
    | none => none
    | some (.ex e ρ') => some (.ex e ρ')
    | some (.ok false ρ') => some (.nx ρ')
    | some (.ok true ρ') => match body ρ' with
      | some (.nx ρ2) => sWhile t body n ρ2
      | some (.ct ρ2) => sWhile t body n ρ2
      | some (.bk ρ2) => some (.nx ρ2)
      | m => m
section
variable {O : Addr → Prop} {K : Frag} {M : XM} {W : WX} {σ σ0 σ1 σ2 : St} {ρ ρ0 ρ1 ρ2 : Sls} {H H0 H1 H2 : Hp}
theorem while_ok {t : Ev Bool} {body : EvS} {n : Nat} {D : Ends} (h : LS K M W (sWhile t body n) D σ H) : tWhile (LT K M W t) (LS K M W body) D σ H := by
  obtain ⟨O, ρ, E, h⟩ := h
  refine ⟨fun m σ' H' => ∃ ρ', Ext σ ρ H σ' ρ' H' ∧ EnvR O K σ' H' ρ' ∧ SRes K M W O σ ρ H D (sWhile t body m ρ'), ⟨n, ρ, .refl, E, h⟩, ?_⟩
  rintro m σ1 H1 ⟨ρ1, x1, E1, h1⟩
  cases m with
  | zero => exact h1.elim
  | succ m =>
    refine ⟨O, ρ1, E1, ?_⟩
    unfold sWhile at h1
    revert h1
    generalize t ρ1 = r
    intro h1
    match r, h1 with
    | some (.ex e ρ'), h1 => exact fun cls d H' p => h1 cls d σ1 H' (p.after x1)
    | some (.ok false ρ'), h1 => exact fun H' x e => h1 σ1 H' ⟨x1.trans x, e⟩
    | some (.ok true ρ'), h1 =>
      intro H2 x2 e2
      have x3 := x1.trans x2
      refine ⟨fun σ' H' => ∃ ρ', Ext σ ρ H σ' ρ' H' ∧ EnvR O K σ' H' ρ' ∧ SRes K M W O σ ρ H D (sWhile t body m ρ'), fun σ' H' n => ⟨m, Nat.lt_succ_self m, n⟩, O, ρ', e2, ?_⟩
      simp only at h1
      revert h1
      generalize body ρ' = b
      intro h1
      match b, h1 with
      | some (.nx ρ4), h1 => exact fun σ' H' p => ⟨ρ4, x3.trans p.ext, p.env, h1⟩
      | some (.ct ρ4), h1 => exact fun σ' H' p => ⟨ρ4, x3.trans p.ext, p.env, h1⟩
      | some (.bk ρ4), h1 => exact fun σ' H' p => h1 σ' H' (p.after x3)
      | some (.rt r ρ4), h1 => exact fun x σ' H' p => h1 x σ' H' (p.after x3)
      | some (.ro i ρ4), h1 => exact fun x σ' H' p => h1 x σ' H' (p.after x3)
      | some (.ex e ρ4), h1 => exact fun cls d σ' H' p => h1 cls d σ' H' (p.after x3)
end
theorem s_while {X : Cx} {M : XM} {W : WX} {pos : Pos} {c : Expr} {b : List Stmt} {t : Ev Bool} {f : EvS} (n : Nat) (hp : PassesOwn (model X.prog X.w) X.A X.env X.xe) (hc : PT X c (LT X.K M W t)) (hb : PSs X b (LS X.K M W f)) : PS X (.While c b [] pos) (LS X.K M W (sWhile t f n)) :=
  psImp (ps_while hp hc hb) fun D σ H h => while_ok h

/-! for -/
def evFor (g : TgE) (body : EvS) : List D → EvS
  | [], ρ => some (.nx ρ)
  | d :: ds, ρ => match g ⟨d, false⟩ ρ with
    | none => none
    | some ρ1 => match body ρ1 with
      | some (.nx ρ2) => evFor g body ds ρ2
      | some (.ct ρ2) => evFor g body ds ρ2
      | some (.bk ρ2) => some (.nx ρ2)
      | m => m
/-- the iterator J walks these items while P -/
def JOk (K : Frag) (J : It) (items : List D) (P : (Addr → Prop) → Hp → Prop) : Prop := ∀ O H, (∀ a, O a → H a ≠ none) → P O H → J.stop items.length H ∧ ∀ i d, items[i]? = some d → J.go i H ∧ ∀ x H', J.yld i H x H' → (∀ a, H a ≠ none → H' a = H a) ∧ Rep O K H' x d
/-- what is walked stands: by itself, or as the list of slot j -/
def ItOk (K : Frag) (J : It) (items : List D) (lk : Option Nat) (O : Addr → Prop) (σ : St) (ρ : Sls) (H : Hp) : Prop := ∃ P, JOk K J items P ∧
  ((lk = none ∧ P (Ow O σ ρ) H ∧ ∀ O H O' H', Keep O H O' H' → P O H → P O' H') ∨
   (∃ j k a, lk = some j ∧ ρ[j]? = some (.own k items) ∧ σ[j]? = some (some (.ref a)) ∧ ∀ O H, (∃ xs, H a = some (.lst xs) ∧ Reps O K H xs items) → P O H))
abbrev EvI := Ev (List D × Option Nat)
def LI (K : Frag) (M : XM) (W : WX) (f : EvI) : TI := fun σ H R => ∃ O ρ, EnvR O K σ H ρ ∧ Res K M W O σ ρ H (fun r ρ' => ∀ J H', Ext σ ρ H σ ρ' H' → EnvR O K σ H' ρ' → ItOk K J r.1 r.2 O σ ρ' H' → R J H') (f ρ)
def lockS (ρ : Sls) (j : Nat) : Sls := match ρ[j]? with
  | some (.own 0 ds) => ρ.set j (.own 2 ds)
  | some (.own 1 ds) => ρ.set j (.own 3 ds)
  | _ => ρ
def unlS (j k : Nat) (ρ : Sls) : Sls := match ρ[j]? with
  | some (.own _ ds) => ρ.set j (.own k ds)
  | _ => ρ
def SOut.map (h : Sls → Sls) : SOut → SOut
  | .nx ρ => .nx (h ρ)
  | .rt r ρ => .rt r (h ρ)
  | .ro i ρ => .ro i (h ρ)
  | .bk ρ => .bk (h ρ)
  | .ct ρ => .ct (h ρ)
  | .ex e ρ => .ex e (h ρ)
def sFor (fi : EvI) (g : TgE) (body : EvS) : EvS := fun ρ => match fi ρ with
  | none => none
  | some (.ex e ρ') => some (.ex e ρ')
  | some (.ok (items, none) ρ') => evFor g body items ρ'
  | some (.ok (items, some j) ρ') => match ρ'[j]? with
    | some (.own k _) => (evFor g body items (lockS ρ' j)).map (SOut.map (unlS j k))
    | _ => none
section
variable {O : Addr → Prop} {K : Frag} {M : XM} {W : WX} {σ σ0 σ1 σ2 : St} {ρ ρ0 ρ1 ρ2 : Sls} {H H0 H1 H2 : Hp}
/-- the mark of slot j's list does not matter -/
theorem own_kind {j k k' : Nat} {ds : List D} (h : ρ[j]? = some (.own k ds)) {i : Nat} {a : Addr} : OwnAt σ (ρ.set j (.own k' ds)) i a ↔ OwnAt σ ρ i a := by
  have hl := (List.getElem?_eq_some_iff.mp h).1
  constructor
  · rintro ⟨⟨k2, es, e1⟩, e2⟩
    rcases get_set e1 with ⟨z, _⟩ | ⟨_, z⟩
    · subst z; exact ⟨⟨k, ds, h⟩, e2⟩
    · exact ⟨⟨k2, es, z⟩, e2⟩
  · rintro ⟨⟨k2, es, e1⟩, e2⟩
    by_cases z : j = i
    · subst z; exact ⟨⟨k', ds, List.getElem?_set_self hl⟩, e2⟩
    · exact ⟨⟨k2, es, by rw [List.getElem?_set_ne z]; exact e1⟩, e2⟩
theorem ow_kind {j k k' : Nat} {ds : List D} (h : ρ[j]? = some (.own k ds)) : Ow O σ (ρ.set j (.own k' ds)) = Ow O σ ρ := by
  funext a
  unfold Ow
  simp only [own_kind h]
theorem EnvR.kind {j k k' : Nat} {ds : List D} (E : EnvR O K σ H ρ) (h : ρ[j]? = some (.own k ds)) : EnvR O K σ H (ρ.set j (.own k' ds)) := by
  refine ⟨by rw [List.length_set]; exact E.len, fun i d e => ?_, fun i k2 es e => ?_, fun i l a z1 z2 => E.inj i l a ((own_kind h).mp z1) ((own_kind h).mp z2), E.out⟩
  · rw [ow_kind h]
    rcases get_set e with ⟨_, z⟩ | ⟨_, z⟩
    · cases z
    · exact E.val i d z
  · rw [ow_kind h]
    rcases get_set e with ⟨rfl, z⟩ | ⟨_, z⟩
    · cases z; exact E.own i k ds h
    · exact E.own i k2 es z
theorem unl_env {j k : Nat} (E : EnvR O K σ H ρ) : EnvR O K σ H (unlS j k ρ) := by
  unfold unlS
  split
  · rename_i k' ds e; exact E.kind e
  · exact E
theorem unl_ow {j k : Nat} : Ow O σ (unlS j k ρ) = Ow O σ ρ := by
  unfold unlS
  split
  · rename_i k' ds e; exact ow_kind e
  · rfl
theorem unl_own {j k i : Nat} {a : Addr} : OwnAt σ (unlS j k ρ) i a ↔ OwnAt σ ρ i a := by
  unfold unlS
  split
  · rename_i k' ds e; exact own_kind e
  · exact .rfl
theorem lock_env {j : Nat} (E : EnvR O K σ H ρ) : EnvR O K σ H (lockS ρ j) := by
  unfold lockS
  split
  · rename_i ds e; exact E.kind e
  · rename_i ds e; exact E.kind e
  · exact E
theorem lock_own {j i : Nat} {a : Addr} : OwnAt σ (lockS ρ j) i a ↔ OwnAt σ ρ i a := by
  unfold lockS
  split
  · rename_i ds e; exact own_kind e
  · rename_i ds e; exact own_kind e
  · exact .rfl
theorem lock_at {j k : Nat} {ds : List D} (h : ρ[j]? = some (.own k ds)) : ∃ k', 2 ≤ k' ∧ (lockS ρ j)[j]? = some (.own k' ds) ∧ (2 ≤ k → k' = k) ∧ (k < 2 → k' = k + 2) := by
  have hl := (List.getElem?_eq_some_iff.mp h).1
  unfold lockS
  rw [h]
  match k with
  | 0 => exact ⟨2, Nat.le_refl _, List.getElem?_set_self hl, fun z => by omega, fun _ => rfl⟩
  | 1 => exact ⟨3, by omega, List.getElem?_set_self hl, fun z => by omega, fun _ => rfl⟩
  | k + 2 => exact ⟨k + 2, by omega, h, fun _ => rfl, fun z => by omega⟩
theorem lock_ne {j i : Nat} (h : i ≠ j) : (lockS ρ j)[i]? = ρ[i]? := by
  unfold lockS
  split
  · exact List.getElem?_set_ne (Ne.symm h)
  · exact List.getElem?_set_ne (Ne.symm h)
  · rfl
theorem unl_ne {j k i : Nat} (h : i ≠ j) : (unlS j k ρ)[i]? = ρ[i]? := by
  unfold unlS
  split
  · exact List.getElem?_set_ne (Ne.symm h)
  · rfl
/-- the loop's end unlocks -/
theorem relock {j k : Nat} {ds : List D} (h : ρ[j]? = some (.own k ds)) (x : Ext σ (lockS ρ j) H σ1 ρ1 H1) : Ext σ ρ H σ1 (unlS j k ρ1) H1 := by
  obtain ⟨k', hk', hlk, same, lift⟩ := lock_at h
  obtain ⟨z1, z2⟩ := x.lck j k' ds hk' hlk
  have hu : (unlS j k ρ1)[j]? = some (.own k ds) := by
    unfold unlS
    rw [z1]
    exact List.getElem?_set_self (List.getElem?_eq_some_iff.mp z1).1
  refine ⟨fun a n no => x.keep a n fun i q => no i (lock_own.mp q), fun i a q => ?_, x.trk, fun i k2 es hk e => ?_, fun i k2 es hk e => ?_⟩
  · rcases x.grow i a (unl_own.mp q) with ⟨l, q⟩ | q
    · exact .inl ⟨l, lock_own.mp q⟩
    · exact .inr q
  · by_cases ij : i = j
    · subst ij
      rw [h] at e; cases e
      exact ⟨hu, z2⟩
    · obtain ⟨y1, y2⟩ := x.lck i k2 es hk (by rw [lock_ne ij]; exact e)
      exact ⟨by rw [unl_ne ij]; exact y1, y2⟩
  · by_cases ij : i = j
    · subst ij
      rw [h] at e; cases e
      exact ⟨⟨ds, hu⟩, z2⟩
    · obtain ⟨⟨es', y1⟩, y2⟩ := x.bor i k2 es hk (by rw [lock_ne ij]; exact e)
      exact ⟨⟨es', by rw [unl_ne ij]; exact y1⟩, y2⟩
theorem ow_unl {p : Addr} {j k : Nat} : Ow (fun a => O a ∨ a = p) σ (unlS j k ρ) = Ow (fun a => O a ∨ a = p) σ ρ := unl_ow
theorem SRes.unlock {j k : Nat} {ds : List D} {D' : Ends} {m : Option SOut} (h : ρ[j]? = some (.own k ds)) (q : SRes K M W O σ ρ H D' (m.map (SOut.map (unlS j k)))) : SRes K M W O σ (lockS ρ j) H D' m := by
  match m, q with
  | some (.nx ρ'), q => exact fun σ' H' p => q σ' H' ⟨relock h p.ext, unl_env p.env⟩
  | some (.bk ρ'), q => exact fun σ' H' p => q σ' H' ⟨relock h p.ext, unl_env p.env⟩
  | some (.ct ρ'), q => exact fun σ' H' p => q σ' H' ⟨relock h p.ext, unl_env p.env⟩
  | some (.rt r ρ'), q =>
    refine fun x σ' H' p => q x σ' H' ⟨relock h p.ext, unl_env p.env, by rw [unl_ow]; exact p.rep, fun hf => ?_⟩
    obtain ⟨a, xs, es, h1, h2, h3, h4, h5, h6⟩ := p.fr hf
    exact ⟨a, xs, es, h1, h2, h3, h4, by rw [unl_ow]; exact h5, unl_env h6⟩
  | some (.ro i ρ'), q =>
    refine fun x σ' H' p hx ho => q x σ' H' ⟨relock h p.ext, unl_env p.env⟩ hx ?_
    obtain ⟨es, ho⟩ := ho
    obtain ⟨k', hk', hlk, same, lift⟩ := lock_at h
    obtain ⟨z1, z2⟩ := p.ext.lck j k' ds hk' hlk
    have ij : i ≠ j := fun e => by subst e; rw [ho] at z1; cases z1; omega
    exact ⟨es, by rw [unl_ne ij]; exact ho⟩
  | some (.ex e ρ'), q =>
    exact fun cls d σ' H' p => q cls d σ' H' ⟨relock h p.ext, unl_env p.env, by rw [unl_ow]; exact p.exc⟩
/-- the loop itself -/
theorem evFor_ok {z : SlZ} {g : TgE} {body : EvS} {items : List D} {J : It} {D' : Ends} {P : (Addr → Prop) → Hp → Prop} (E : EnvR O K σ H ρ) (hJ : JOk K J items P)
    (hP : ∀ σ' ρ' H', Ext σ ρ H σ' ρ' H' → EnvR O K σ' H' ρ' → P (Ow O σ' ρ') H') (h : SRes K M W O σ ρ H D' (evFor g body items ρ)) :
    ∃ W' : Nat → Nat → St → Hp → Prop, (∃ m, W' 0 m σ H) ∧ ∀ i m σ H, W' i m σ H → (J.stop i H ∧ D'.nx σ H) ∨ (J.go i H ∧ ∃ N : St → Hp → Prop, (∀ σ' H', N σ' H' → ∃ m', m' < m ∧ W' (i + 1) m' σ' H') ∧
      ∀ x H', J.yld i H x H' → LG K z g x σ H' fun σ2 H2 => LS K M W body { D' with nx := N, ct := N, bk := D'.nx } σ2 H2) := by
  refine ⟨fun i m σ' H' => m = items.length - i ∧ i ≤ items.length ∧ ∃ ρ', Ext σ ρ H σ' ρ' H' ∧ EnvR O K σ' H' ρ' ∧ SRes K M W O σ ρ H D' (evFor g body (items.drop i) ρ'), ⟨items.length, rfl, Nat.zero_le _, ρ, .refl, E, h⟩, ?_⟩
  rintro i m σ1 H1 ⟨rfl, hi, ρ1, x1, E1, h1⟩
  obtain ⟨js, jg⟩ := hJ _ _ (fun a z => E1.owNe z) (hP σ1 ρ1 H1 x1 E1)
  by_cases hlt : i < items.length
  · obtain ⟨go, yl⟩ := jg i items[i] (List.getElem?_eq_getElem hlt)
    refine .inr ⟨go, fun σ' H' => ∃ ρ', Ext σ ρ H σ' ρ' H' ∧ EnvR O K σ' H' ρ' ∧ SRes K M W O σ ρ H D' (evFor g body (items.drop (i + 1)) ρ'), fun σ' H' n => ⟨items.length - (i + 1), by omega, rfl, hlt, n⟩, fun x H2 y => ?_⟩
    obtain ⟨kp, rx⟩ := yl x H2 y
    have E2 := E1.new kp
    have x2 := x1.trans (Ext.new kp)
    rw [List.drop_eq_getElem_cons hlt] at h1
    unfold evFor at h1
    cases eg : g ⟨items[i], false⟩ ρ1 with
    | none => simp only [eg] at h1; exact h1.elim
    | some ρ2 =>
      simp only [eg] at h1
      refine ⟨O, σ1, ρ1, H2, ρ1, ⟨items[i], false⟩, E2.out, ⟨.refl, E2, rx, fun z => nomatch z⟩, ρ2, eg, fun σ3 H3 p3 _ => ?_⟩
      have x3 := x2.trans p3.ext
      refine ⟨O, ρ2, p3.env, ?_⟩
      revert h1
      generalize body ρ2 = b
      intro h1
      match b, h1 with
      | some (.nx ρ4), h1 => exact fun σ' H' p => ⟨ρ4, x3.trans p.ext, p.env, h1⟩
      | some (.ct ρ4), h1 => exact fun σ' H' p => ⟨ρ4, x3.trans p.ext, p.env, h1⟩
      | some (.bk ρ4), h1 => exact fun σ' H' p => h1 σ' H' (p.after x3)
      | some (.rt r ρ4), h1 => exact fun x σ' H' p => h1 x σ' H' (p.after x3)
      | some (.ro i ρ4), h1 => exact fun x σ' H' p => h1 x σ' H' (p.after x3)
      | some (.ex e ρ4), h1 => exact fun cls d σ' H' p => h1 cls d σ' H' (p.after x3)
  · have e : i = items.length := by omega
    subst e
    rw [List.drop_eq_nil_of_le (Nat.le_refl _)] at h1
    exact .inl ⟨js, h1 σ1 H1 ⟨x1, E1⟩⟩
theorem for_ok {z : SlZ} {fi : EvI} {g : TgE} {body : EvS} {D' : Ends} (h : LS K M W (sFor fi g body) D' σ H) : tFor (LI K M W fi) (LG K z g) (LS K M W body) D' σ H := by
  obtain ⟨O, ρ, E, h⟩ := h
  refine ⟨O, ρ, E, ?_⟩
  unfold sFor at h
  revert h
  generalize fi ρ = m
  intro h
  match m, h with
  | some (.ex e ρ'), h => exact fun cls d H' p => h cls d σ H' p
  | some (.ok (items, none) ρ'), h =>
    intro J H1 x1 E1 it
    obtain ⟨P, hJ, hp⟩ := it
    rcases hp with ⟨_, hp, keep⟩ | ⟨j, k, a, z, _⟩
    · exact evFor_ok E1 hJ (fun σ' ρ' H' x _ => keep _ _ _ _ x.kp hp) (h.after x1)
    · cases z
  | some (.ok (items, some j) ρ'), h =>
    intro J H1 x1 E1 it
    obtain ⟨P, hJ, hp⟩ := it
    rcases hp with ⟨z, _⟩ | ⟨j', k, a, z, hj, ha, hp⟩
    · cases z
    · cases z
      simp only [hj] at h
      refine evFor_ok (lock_env E1) hJ (fun σ' ρ2 H' x E2 => ?_) ((h.after x1).unlock hj)
      obtain ⟨k', hk', hlk, _⟩ := lock_at hj
      obtain ⟨z1, z2⟩ := x.lck _ _ _ hk' hlk
      obtain ⟨b, xs, g1, g2, g3, _⟩ := E2.own _ _ _ z1
      rw [z2, ha] at g1; cases g1
      exact hp _ _ ⟨xs, g2, g3⟩
end
theorem s_for {z : SlZ} {X : Cx} {M : XM} {W : WX} {pos : Pos} {tg iter : Expr} {b : List Stmt} {fi : EvI} {g : TgE} {f : EvS} (hp : PassesOwn (model X.prog X.w) X.A X.env X.xe) (hc : X.calm = true) (hi : PI X tg iter (LI X.K M W fi)) (hg : PG X tg (LG X.K z g)) (hb : PSs X b (LS X.K M W f))
    (hs : ∀ x, foldedSetIterable iter X.env x = pure x) : PS X (.For tg iter b [] pos) (LS X.K M W (sFor fi g f)) :=
  psImp (ps_for hp hc hi hg hb hs) fun D σ H h => for_ok h

/-! what is walked -/
section
variable {O : Addr → Prop} {K : Frag} {M : XM} {W : WX} {σ σ0 σ1 σ2 : St} {ρ ρ0 ρ1 ρ2 : Sls} {H H0 H1 H2 : Hp}
theorem piImp {X : Cx} {tg iter : Expr} {w w' : TI} (h : PI X tg iter w) (k : ∀ σ H R, w' σ H R → w σ H R) : PI X tg iter w' := ⟨fun pins s σ H R I q => h.run pins s σ H R I (k σ H R q)⟩
theorem PI.or {X : Cx} {tg iter : Expr} {w w' : TI} (h : PI X tg iter w) (h' : PI X tg iter w') : PI X tg iter (fun σ H R => w σ H R ∨ w' σ H R) := ⟨fun pins s σ H R I q => q.elim (h.run pins s σ H R I) (h'.run pins s σ H R I)⟩
/-- a list, a tuple, a text that is walked -/
def wSq (K : Frag) (R : It → Hp → Prop) : VK := fun x H1 => (∃ a, x = .ref a ∧ (((∃ xs, SqL K H1 a xs) ∧ R (Itl K a) H1) ∨ ((∃ xs, SqT K H1 a xs) ∧ R (Itt K a) H1))) ∨ ∃ z, x = .str z ∧ R (Its z) H1
theorem pi_sq {X : Cx} {tg l : Expr} {tl : TE} (hl : PE X l tl) : PI X tg l (fun σ H R => tl σ H (wSq X.K R)) := by
  refine ⟨fun pins s σ H R I h => ?_⟩
  refine thn (hl.run pins s σ H _ I h) fun v s1 ⟨x, H1, I1, r1, q1⟩ => ?_
  rcases q1 with ⟨a, e, q⟩ | ⟨z, e, q⟩
  rotate_left
  · subst e
    obtain ⟨t, rfl⟩ := r1
    cases ha : z.cps.all (· < 128)
    · exact wpAny_pyIter_wide ha (pi_one (tk := s1.toks) I1 _ (turn_str _ z t "str_iterator" (.inr rfl)) ⟨_, Heap.get?_push_size _ rfl, rfl, rfl⟩ q)
    · exact wpAny_pyIter_ascii ha (pi_one (tk := s1.toks) I1 _ (turn_str _ z t "str_ascii_iterator" (.inl rfl)) ⟨_, Heap.get?_push_size _ rfl, rfl, rfl⟩ q)
  subst e
  cases r1
  rcases q with ⟨⟨xs, hq⟩, q⟩ | ⟨⟨xs, hq⟩, q⟩
  · obtain ⟨its, rv, p, hz⟩ := I1.list hq
    refine wpAny_pyIter_list p.isList ?_
    refine ⟨s1.heap.objs.size, [s1.heap.objs.size], _, _, H1, rfl, I1.kept (t' := s1.toks) fun b o e => Heap.get?_push_of_some _ e, turn_list a _, ⟨_, Heap.get?_push_size _ rfl, rfl, rfl⟩, fun b hb => ?_, q⟩
    have e : b = s1.heap.objs.size := by simpa using hb
    subst e
    exact I1.fpOk (Nat.le_refl _) (I1.hok.fresh (Nat.le_refl _))
  · obtain ⟨its, rv, p, hz⟩ := I1.tuple hq
    refine wpAny_pyIter_tuple (show s1.heap.IsTuple a its.toArray from p) ?_
    refine ⟨s1.heap.objs.size, [s1.heap.objs.size], _, _, H1, rfl, I1.kept (t' := s1.toks) fun b o e => Heap.get?_push_of_some _ e, turn_tuple a _, ⟨_, Heap.get?_push_size _ rfl, rfl, rfl⟩, fun b hb => ?_, q⟩
    have e : b = s1.heap.objs.size := by simpa using hb
    subst e
    exact I1.fpOk (Nat.le_refl _) (I1.hok.fresh (Nat.le_refl _))
theorem jok_list {a : Addr} {items : List D} : JOk K (Itl K a) items fun O H => ∃ xs, SqL K H a xs ∧ Reps O K H xs items := fun O H _ ⟨xs, hs, hr⟩ => by
  refine ⟨⟨xs, hs, by rw [hr.length]; exact Nat.le_refl _⟩, fun i d e => ?_⟩
  obtain ⟨x, hx, rx⟩ := hr.get e
  refine ⟨⟨xs, x, hs, hx⟩, fun y H' ⟨e1, e2⟩ => ?_⟩
  subst e1
  have z := e2 xs hs
  rw [hx] at z; cases z
  exact ⟨fun _ _ => rfl, rx⟩
theorem jok_tup {a : Addr} {items : List D} : JOk K (Itt K a) items fun O H => ∃ xs, SqT K H a xs ∧ Reps O K H xs items := fun O H _ ⟨xs, hs, hr⟩ => by
  refine ⟨⟨xs, hs, by rw [hr.length]; exact Nat.le_refl _⟩, fun i d e => ?_⟩
  obtain ⟨x, hx, rx⟩ := hr.get e
  refine ⟨⟨xs, x, hs, hx⟩, fun y H' ⟨e1, e2⟩ => ?_⟩
  subst e1
  have z := e2 xs hs
  rw [hx] at z; cases z
  exact ⟨fun _ _ => rfl, rx⟩
def chars (z : Str) : List D := z.cps.toList.map fun c => .str ⟨#[c]⟩
theorem jok_str {z : Str} : JOk K (Its z) (chars z) fun _ _ => True := fun O H _ _ => by
  refine ⟨by simp [chars, Its], fun i d e => ?_⟩
  simp only [chars, List.getElem?_map, Option.map_eq_some_iff, Array.getElem?_toList] at e
  obtain ⟨c, e1, rfl⟩ := e
  refine ⟨(Array.getElem?_eq_some_iff.mp e1).1, fun x H' ⟨h1, c', h2, h3⟩ => ?_⟩
  subst h1
  rw [e1] at h2; cases h2
  subst h3
  exact ⟨fun _ _ => rfl, .str _⟩
theorem JOk.mono {J : It} {items : List D} {P P' : (Addr → Prop) → Hp → Prop} (h : JOk K J items P) (k : ∀ O H, P' O H → P O H) : JOk K J items P' := fun O H o p => h O H o (k O H p)
/-- what a value gives when it is walked -/
def D.wk : D → Option (List D)
  | .str z => some (chars z)
  | d => d.sq
def evSeq (s : SA) : EvI := (evAs [s]).bind fun rs ρ => match rs with
  | [.inl j] => match ρ[j]? with
    | some (.own k ds) => some (.ok (ds, some j) ρ)
    | some (.v d) => match d.wk with
      | some ds => some (.ok (ds, none) ρ)
      | none => none
    | _ => none
  | [.inr d] => match d.wk with
    | some ds => some (.ok (ds, none) ρ)
    | none => none
  | _ => none
/-- a value that is walked -/
theorem itOk_val {x : V} {d : D} {ds : List D} (h : Rep (Ow O σ ρ) K H x d) (e : d.sq = some ds) : ∃ a, x = .ref a ∧ (((∃ xs, SqL K H a xs) ∧ ItOk K (Itl K a) ds none O σ ρ H) ∨ ((∃ xs, SqT K H a xs) ∧ ItOk K (Itt K a) ds none O σ ρ H)) := by
  cases d with
  | lst es =>
    cases e
    cases h with
    | @lst a xs _ n t r =>
      refine ⟨a, rfl, .inl ⟨⟨xs, SqL.of t⟩, fun O H => ∃ xs, LAt O K H a xs ∧ Reps O K H xs ds, jok_list.mono fun O H ⟨xs, h1, h2⟩ => ⟨xs, h1.sq, h2⟩, .inl ⟨rfl, ⟨xs, .inl ⟨n, .inl t⟩, r⟩, fun O H O' H' k ⟨xs, h1, h2⟩ => ⟨xs, h1.keep k, Reps.keep k _ _ h2⟩⟩⟩⟩
  | fls es =>
    cases e
    cases h with
    | @fls a xs _ t r =>
      refine ⟨a, rfl, .inl ⟨⟨xs, t.sq⟩, fun O H => ∃ xs, LAt O K H a xs ∧ Reps O K H xs ds, jok_list.mono fun O H ⟨xs, h1, h2⟩ => ⟨xs, h1.sq, h2⟩, .inl ⟨rfl, ⟨xs, t, r⟩, fun O H O' H' k ⟨xs, h1, h2⟩ => ⟨xs, h1.keep k, Reps.keep k _ _ h2⟩⟩⟩⟩
  | tup es =>
    cases e
    cases h with
    | @tup a xs _ t r =>
      refine ⟨a, rfl, .inr ⟨⟨xs, t.sq⟩, fun O H => ∃ xs, TAt O K H a xs ∧ Reps O K H xs ds, jok_tup.mono fun O H ⟨xs, h1, h2⟩ => ⟨xs, h1.sq, h2⟩, .inl ⟨rfl, ⟨xs, t, r⟩, fun O H O' H' k ⟨xs, h1, h2⟩ => ⟨xs, h1.keep k, Reps.keep k _ _ h2⟩⟩⟩⟩
  | _ => cases e
theorem itOk_wk {x : V} {d : D} {ds : List D} {R : It → Hp → Prop} (h : Rep (Ow O σ ρ) K H x d) (e : d.wk = some ds) (k : ∀ J, ItOk K J ds none O σ ρ H → R J H) : wSq K R x H := by
  unfold D.wk at e
  split at e
  · cases e
    cases h
    exact .inr ⟨_, rfl, k _ ⟨_, jok_str, .inl ⟨rfl, trivial, fun _ _ _ _ _ _ => trivial⟩⟩⟩
  · obtain ⟨a, e, q⟩ := itOk_val h e
    refine .inl ⟨a, e, ?_⟩
    rcases q with ⟨q1, q2⟩ | ⟨q1, q2⟩
    · exact .inl ⟨q1, k _ q2⟩
    · exact .inr ⟨q1, k _ q2⟩
theorem seq_ok {s : SA} {R : It → Hp → Prop} (h : LI K M W (evSeq s) σ H R) : LA1 K M W s σ H (wSq K R) := by
  obtain ⟨O, ρ, E, h⟩ := h
  refine LA1.one (args_ok [s] ρ H _ E ?_)
  refine (Res.bind (f := evAs [s]) h).mono fun rs ρ1 h1 xs H1 p => ?_
  split at h1
  · rename_i j
    cases hr : p.reps with
    | cons hx t =>
      rename_i x xs'
      cases t
      refine ⟨x, rfl, ?_⟩
      have hx : σ[j]? = some (some x) := hx
      split at h1
      · rename_i k ds ej
        obtain ⟨a, ys, g1, g2, g3, _⟩ := p.env.own j k ds ej
        rw [hx] at g1; cases g1
        exact .inl ⟨a, rfl, .inl ⟨⟨ys, SqL.of g2⟩, h1 _ H1 p.ext p.env ⟨_, jok_list, .inr ⟨j, k, a, rfl, ej, hx, fun O H ⟨xs, q1, q2⟩ => ⟨xs, SqL.of q1, q2⟩⟩⟩⟩⟩
      · rename_i d ej
        split at h1
        · rename_i ds ed
          obtain ⟨y, g1, g2⟩ := p.env.val j d ej
          rw [hx] at g1; cases g1
          exact itOk_wk g2 ed fun J q => h1 J H1 p.ext p.env q
        · exact h1.elim
      · exact h1.elim
  · rename_i d
    cases hr : p.reps with
    | cons hx t =>
      rename_i x xs'
      cases t
      refine ⟨x, rfl, ?_⟩
      have hx : Rep (Ow O σ ρ1) K H1 x d := hx
      split at h1
      · rename_i ds ed
        exact itOk_wk hx ed fun J q => h1 J H1 p.ext p.env q
      · exact h1.elim
  · exact h1.elim
theorem i_seq {X : Cx} {tg l : Expr} {s : SA} (hl : PArg X M W l s) : PI X tg l (LI X.K M W (evSeq s)) := piImp (pi_sq hl) fun σ H R h => seq_ok h
end
end L3

/-! E10: range, zip. -/
namespace L3
open PySem L2
section
variable {O : Addr → Prop} {K : Frag} {M : XM} {W : WX} {σ σ0 σ1 σ2 : St} {ρ ρ0 ρ1 ρ2 : Sls} {H H0 H1 H2 : Hp}
def rgD (lo c : Int) (n : Nat) : List D := (List.range n).map fun i => .int (lo + (i : Nat) * c)
theorem jok_rgC {lo c : Int} {n : Nat} : JOk K (Itc lo c n) (rgD lo c n) fun _ _ => True := fun O H _ _ => by
  refine ⟨by simp [rgD, Itc], fun i d e => ?_⟩
  simp only [rgD, List.getElem?_map, Option.map_eq_some_iff] at e
  obtain ⟨j, e1, rfl⟩ := e
  obtain ⟨hj, e2⟩ := List.getElem?_eq_some_iff.mp e1
  rw [List.getElem_range] at e2
  subst e2
  have hj : i < n := by simpa using hj
  refine ⟨hj, fun x H' ⟨h1, h2⟩ => ?_⟩
  subst h1 h2
  exact ⟨fun _ _ => rfl, .int _⟩
theorem jok_rg {lo : Int} {n : Nat} : JOk K (Itr lo n) (rgD lo 1 n) fun _ _ => True := fun O H _ _ => by
  refine ⟨by simp [rgD, Itr], fun i d e => ?_⟩
  simp only [rgD, List.getElem?_map, Option.map_eq_some_iff] at e
  obtain ⟨j, e1, rfl⟩ := e
  obtain ⟨hj, e2⟩ := List.getElem?_eq_some_iff.mp e1
  rw [List.getElem_range] at e2
  subst e2
  have hj : i < n := by simpa using hj
  refine ⟨hj, fun x H' ⟨h1, h2⟩ => ?_⟩
  subst h1 h2
  rw [Int.mul_one]
  exact ⟨fun _ _ => rfl, .int _⟩
theorem itOk_true {J : It} {items : List D} (h : JOk K J items fun _ _ => True) : ItOk K J items none O σ ρ H := ⟨_, h, .inl ⟨rfl, trivial, fun _ _ _ _ _ _ => trivial⟩⟩
/-- the items of arguments that are looked at once -/
def evItm (g : List D → Option (List D)) (as : List SA) : EvI := (evAs as).bind fun rs ρ => match finD ρ rs with
  | some ds => match g ds with
    | some items => some (.ok (items, none) ρ)
    | none => none
  | none => none
theorem itm_ok {g : List D → Option (List D)} {as : List SA} {R : It → Hp → Prop} {ru : List V → Hp → Prop}
    (hp : ∀ O σ ρ H xs ds items, EnvR O K σ H ρ → ArgRs (Ow O σ ρ) K H xs ds → (allE as = true → Reps (Ow O σ ρ) K H xs ds) → g ds = some items → (∀ J, ItOk K J items none O σ ρ H → R J H) → ru xs H)
    (h : LI K M W (evItm g as) σ H R) : LAs K M W as σ H ru := by
  obtain ⟨O, ρ, E, h⟩ := h
  refine args_ok as ρ H _ E ?_
  have h' := Res.bind (f := evAs as) h
  generalize hm : evAs as ρ = m at h' ⊢
  match m, h' with
  | some (.ex e ρ'), h' => exact h'
  | some (.ok rs ρ1), h1 =>
    intro xs H1 p
    have h1 : Res K M W O σ ρ H _ (match finD ρ1 rs with
      | some ds => match g ds with
        | some items => some (.ok (items, none) ρ1)
        | none => none
      | none => none) := h1
    cases e : finD ρ1 rs with
    | none => simp only [e] at h1; exact h1.elim
    | some ds =>
      simp only [e] at h1
      cases e2 : g ds with
      | none => simp only [e2] at h1; exact h1.elim
      | some items =>
        simp only [e2] at h1
        exact hp O σ ρ1 H1 xs ds items p.env (fin_ok p.env p.reps e) (fun ha => p.reps.allR ha ⟨_, _, hm⟩ e) e2 fun J q => h1 J H1 p.ext p.env q
def sm62 (i : Int) : Bool := decide (-4611686018427387904 ≤ i) && decide (i < 4611686018427387904)
theorem sm62_of {i : Int} (h : sm62 i = true) : -(2 ^ 62) ≤ i ∧ i < 2 ^ 62 := by
  unfold sm62 at h
  simp only [Bool.and_eq_true, decide_eq_true_eq] at h
  exact h
def gRg1 : List D → Option (List D)
  | [.int j] => match sm62 j with
    | true => some (rgD 0 1 j.toNat)
    | false => none
  | _ => none
def gRg2 : List D → Option (List D)
  | [.int i, .int j] => match sm62 i && sm62 j with
    | true => some (rgD i 1 (j - i).toNat)
    | false => none
  | _ => none
def gRg3 : List D → Option (List D)
  | [.int i, .int j, .int c] => match decide (c ≠ 0) && Nat.blt c.natAbs 1073741824 && Builtin.Range.small i j c && decide (Builtin.Range.rangeSize i j c = ((Builtin.Range.rangeSize i j c).toNat : Nat)) with
    | true => some (rgD i c (Builtin.Range.rangeSize i j c).toNat)
    | false => none
  | _ => none
theorem ArgRs.three {xs d e f} (h : ArgRs O K H xs [d, e, f]) : ∃ x y z, xs = [x, y, z] ∧ ArgR O K H x d ∧ ArgR O K H y e ∧ ArgR O K H z f := by
  cases h with
  | cons h1 h2 =>
    obtain ⟨y, z, rfl, h3, h4⟩ := h2.two
    exact ⟨_, _, _, rfl, h1, h3, h4⟩
/-- zip of two lists, of two tuples -/
def zipD : List D → List D → List D
  | x :: xs, y :: ys => .tup [x, y] :: zipD xs ys
  | _, _ => []
def gZip : List D → Option (List D)
  | [.tup xs, .tup ys] => some (zipD xs ys)
  | [d, e] => match d.ls, e.ls with
    | some xs, some ys => some (zipD xs ys)
    | _, _ => none
  | _ => none
theorem zip_get : ∀ {xs ys : List D} {i : Nat} {d : D}, (zipD xs ys)[i]? = some d → ∃ x y, xs[i]? = some x ∧ ys[i]? = some y ∧ d = .tup [x, y]
  | [], _, _, _, h => by simp [zipD] at h
  | _ :: _, [], _, _, h => by simp [zipD] at h
  | x :: xs, y :: ys, 0, _, h => by simp [zipD] at h; exact ⟨x, y, rfl, rfl, h.symm⟩
  | x :: xs, y :: ys, i + 1, _, h => by
    simp only [zipD, List.getElem?_cons_succ] at h ⊢
    exact zip_get h
theorem zip_len : ∀ xs ys : List D, xs.length ≤ (zipD xs ys).length ∨ ys.length ≤ (zipD xs ys).length
  | [], _ => .inl (Nat.zero_le _)
  | _ :: _, [] => .inr (Nat.zero_le _)
  | x :: xs, y :: ys => by
    simp only [zipD, List.length_cons]
    rcases zip_len xs ys with h | h
    · exact .inl (by omega)
    · exact .inr (by omega)
theorem rep_pair {p : Addr} {x y : V} {c d : D} (out : ∀ a, O a → H a ≠ none) (hp : H p = none) (r1 : Rep O K H x c) (r2 : Rep O K H y d) : (∀ a, H a ≠ none → upd H p (.tup [x, y]) a = H a) ∧ Rep O K (upd H p (.tup [x, y])) (.ref p) (.tup [c, d]) := by
  have q := prTup (ds := [c, d]) out hp (.cons r1 (.cons r2 .nil))
  exact ⟨q.keep, q.rep⟩
theorem jok_zipL {a b : Addr} {ds es : List D} : JOk K (Itz K a b) (zipD ds es) fun O H => ∃ xs ys, SqL K H a xs ∧ SqL K H b ys ∧ Reps O K H xs ds ∧ Reps O K H ys es := fun O H out ⟨xs, ys, h1, h2, r1, r2⟩ => by
  refine ⟨⟨xs, ys, h1, h2, by rw [r1.length, r2.length]; exact zip_len ds es⟩, fun i d e => ?_⟩
  obtain ⟨c1, c2, g1, g2, rfl⟩ := zip_get e
  obtain ⟨x, hx, rx⟩ := r1.get g1
  obtain ⟨y, hy, ry⟩ := r2.get g2
  refine ⟨⟨xs, ys, x, y, h1, h2, hx, hy⟩, fun v H' ⟨T, x', y', e1, e2, e3, e4, e5⟩ => ?_⟩
  have z1 := e4 xs h1
  have z2 := e5 ys h2
  rw [hx] at z1; cases z1
  rw [hy] at z2; cases z2
  subst e1 e3
  exact rep_pair out e2 rx ry
theorem jok_zipT {a b : Addr} {ds es : List D} : JOk K (RZ.ItzT K a b) (zipD ds es) fun O H => ∃ xs ys, SqT K H a xs ∧ SqT K H b ys ∧ Reps O K H xs ds ∧ Reps O K H ys es := fun O H out ⟨xs, ys, h1, h2, r1, r2⟩ => by
  refine ⟨⟨xs, ys, h1, h2, by rw [r1.length, r2.length]; exact zip_len ds es⟩, fun i d e => ?_⟩
  obtain ⟨c1, c2, g1, g2, rfl⟩ := zip_get e
  obtain ⟨x, hx, rx⟩ := r1.get g1
  obtain ⟨y, hy, ry⟩ := r2.get g2
  refine ⟨⟨xs, ys, x, y, h1, h2, hx, hy⟩, fun v H' ⟨T, x', y', e1, e2, e3, e4, e5⟩ => ?_⟩
  have z1 := e4 xs h1
  have z2 := e5 ys h2
  rw [hx] at z1; cases z1
  rw [hy] at z2; cases z2
  subst e1 e3
  exact rep_pair out e2 rx ry
theorem Rep.lsL {x : V} {d : D} {ds : List D} (h : Rep O K H x d) (e : d.ls = some ds) : ∃ a xs, x = .ref a ∧ LAt O K H a xs ∧ Reps O K H xs ds := by
  cases d with
  | lst es =>
    cases e
    cases h with
    | lst n t r => exact ⟨_, _, rfl, .inl ⟨n, .inl t⟩, r⟩
  | fls es =>
    cases e
    cases h with
    | fls t r => exact ⟨_, _, rfl, t, r⟩
  | _ => cases e
end
section
variable {X : Cx} {M : XM} {W : WX} {tg : Expr} {p pos : Pos}
theorem i_rg1 {a : Expr} {s : SA} (hg : Gl X "range") (hm : X.mg "range" = none) (ha : PA X [a] (LAs X.K M W [s])) (hs : starEach [a] X.env = [(false, eval a X.env)]) : PI X tg (.Call (.Name "range" p) [a] [] pos) (LI X.K M W (evItm gRg1 [s])) := by
  refine piImp (pi_range1 hg hm ha hs) fun σ H R h => ?_
  refine itm_ok (fun O σ ρ H xs ds items E hr _ hg q => ?_) h
  unfold gRg1 at hg
  split at hg
  · obtain ⟨x, rfl, h1⟩ := hr.one
    split at hg
    · rename_i c
      cases hg
      rw [h1.int]
      exact ⟨_, rfl, (sm62_of c).1, (sm62_of c).2, q _ (itOk_true jok_rg)⟩
    · cases hg
  · cases hg
theorem i_rg2 {a b : Expr} {ss : List SA} (hg : Gl X "range") (hm : X.mg "range" = none) (ha : PA X [a, b] (LAs X.K M W ss)) (hs : starEach [a, b] X.env = [(false, eval a X.env), (false, eval b X.env)]) (hs2 : starEach [b] X.env = [(false, eval b X.env)]) : PI X tg (.Call (.Name "range" p) [a, b] [] pos) (LI X.K M W (evItm gRg2 ss)) := by
  refine piImp (pi_range2 hg hm ha hs hs2) fun σ H R h => ?_
  refine itm_ok (fun O σ ρ H xs ds items E hr _ hg q => ?_) h
  unfold gRg2 at hg
  split at hg
  · obtain ⟨x, y, rfl, h1, h2⟩ := hr.two
    split at hg
    · rename_i c
      cases hg
      rw [Bool.and_eq_true] at c
      rw [h1.int, h2.int]
      exact ⟨_, _, rfl, ⟨(sm62_of c.1).1, (sm62_of c.1).2, (sm62_of c.2).1, (sm62_of c.2).2⟩, q _ (itOk_true jok_rg)⟩
    · cases hg
  · cases hg
theorem i_rg3 {a b c : Expr} {ss : List SA} (hg : Gl X "range") (hm : X.mg "range" = none) (ha : PA X [a, b, c] (LAs X.K M W ss)) (hs : starEach [a, b, c] X.env = (false, eval a X.env) :: starEach [b, c] X.env) (hpl : ((backTo pos (starEach [b, c] X.env)).any fun x => x.fst) = false) : PI X tg (.Call (.Name "range" p) [a, b, c] [] pos) (LI X.K M W (evItm gRg3 ss)) := by
  refine piImp (pi_range3 hg hm ha hs hpl) fun σ H R h => ?_
  refine itm_ok (fun O σ ρ H xs ds items E hr _ hg q => ?_) h
  unfold gRg3 at hg
  split at hg
  · obtain ⟨x, y, z, rfl, h1, h2, h3⟩ := hr.three
    split at hg
    · rename_i c
      cases hg
      simp only [Bool.and_eq_true, decide_eq_true_eq] at c
      rw [h1.int, h2.int, h3.int]
      exact ⟨_, _, _, _, rfl, ⟨c.1.1.1, Nat.le_of_ble_eq_true c.1.1.2, c.1.2, c.2⟩, q _ (itOk_true jok_rgC)⟩
    · cases hg
  · cases hg
theorem i_zip {e e2 : Expr} {tpos : Pos} {elts : List Expr} {kk : Nat} {ss : List SA} (hal : allE ss = true) (hg : Gl X "zip") (hm : X.mg "zip" = none) (ha : PA X [e, e2] (LAs X.K M W ss))
    (hs : starEach [e, e2] X.env = (false, eval e X.env) :: starEach [e2] X.env) (hpl : ((backTo pos (starEach [e2] X.env)).any fun x => x.fst) = false) : PI X (.Tuple elts kk tpos) (.Call (.Name "zip" p) [e, e2] [] pos) (LI X.K M W (evItm gZip ss)) := by
  refine piImp (RZ.pi_zipA hg hm ha hs hpl) fun σ H R h => ?_
  refine itm_ok (fun O σ ρ H xs ds items E _ hr hg q => ?_) h
  have hr := hr hal
  unfold gZip at hg
  split at hg
  · rename_i us vs _ _
    cases hg
    cases hr with
    | cons r1 hr =>
      cases hr with
      | cons r2 hr =>
        cases hr
        cases r1 with
        | @tup a xs1 _ t1 s1 =>
          cases r2 with
          | @tup b xs2 _ t2 s2 =>
            exact ⟨a, b, xs1, xs2, rfl, .inr ⟨t1.sq, t2.sq, q _ ⟨fun O H => ∃ xs ys, TAt O X.K H a xs ∧ TAt O X.K H b ys ∧ Reps O X.K H xs us ∧ Reps O X.K H ys vs, jok_zipT.mono fun O H ⟨xs, ys, g1, g2, g3, g4⟩ => ⟨xs, ys, g1.sq, g2.sq, g3, g4⟩,
              .inl ⟨rfl, ⟨xs1, xs2, t1, t2, s1, s2⟩, fun O H O' H' k ⟨xs, ys, g1, g2, g3, g4⟩ => ⟨xs, ys, g1.keep k, g2.keep k, Reps.keep k _ _ g3, Reps.keep k _ _ g4⟩⟩⟩⟩⟩
  · split at hg
    · rename_i us vs e1 e2
      cases hg
      cases hr with
      | cons r1 hr =>
        cases hr with
        | cons r2 hr =>
          cases hr
          obtain ⟨a, xs1, rfl, t1, s1⟩ := r1.lsL e1
          obtain ⟨b, xs2, rfl, t2, s2⟩ := r2.lsL e2
          exact ⟨a, b, xs1, xs2, rfl, .inl ⟨t1.sq, t2.sq, q _ ⟨fun O H => ∃ xs ys, LAt O X.K H a xs ∧ LAt O X.K H b ys ∧ Reps O X.K H xs us ∧ Reps O X.K H ys vs, jok_zipL.mono fun O H ⟨xs, ys, g1, g2, g3, g4⟩ => ⟨xs, ys, g1.sq, g2.sq, g3, g4⟩,
            .inl ⟨rfl, ⟨xs1, xs2, t1, t2, s1, s2⟩, fun O H O' H' k ⟨xs, ys, g1, g2, g3, g4⟩ => ⟨xs, ys, g1.keep k, g2.keep k, Reps.keep k _ _ g3, Reps.keep k _ _ g4⟩⟩⟩⟩⟩
    · cases hg
  · cases hg
end
end L3

/-! E11: list comprehensions (one for). -/
namespace L3
open PySem L2
/-- inside a comprehension's block no exception leaves -/
abbrev W0 : WX := fun _ _ _ _ => False
def wipeS (ρ : Sls) : List Nat → Sls
  | [] => ρ
  | v :: vs => (wipeS ρ vs).set v .unk
/-- the block's own slots as they were -/
def restS (ρ ρ1 : Sls) : List Nat → Sls
  | [] => ρ
  | v :: vs => (restS ρ ρ1 vs).set v (ρ1.getD v .unk)
def noOwn (ρ : Sls) : List Nat → Bool
  | [] => true
  | v :: vs => match ρ[v]? with
    | some (.own _ _) => false
    | none => false
    | _ => noOwn ρ vs
def cLoop (g : TgE) (t : Ev Bool) (f : Ev R) (own : List Nat) : List D → List D → Sls → Option (List D × Sls)
  | [], acc, ρ => some (acc, ρ)
  | d :: ds, acc, ρ => match g ⟨d, false⟩ (wipeS ρ own) with
    | none => none
    | some ρ2 => match t ρ2 with
      | some (.ok false ρ3) => match noOwn ρ3 own with
        | true => cLoop g t f own ds acc ρ3
        | false => none
      | some (.ok true ρ3) => match f ρ3 with
        | some (.ok r ρ4) => match noOwn ρ4 own && Nat.blt acc.length LIM with
          | true => cLoop g t f own ds (acc ++ [r.d]) ρ4
          | false => none
        | _ => none
      | _ => none
/-- from the slots ρ1 on -/
def cRun (g : TgE) (t : Ev Bool) (f : Ev R) (own : List Nat) (items : List D) (ρ1 : Sls) : Option (List D × Sls) := match noOwn ρ1 own with
  | false => none
  | true => match cLoop g t f own items [] ρ1 with
    | some (acc, ρ') => some (acc, restS ρ' ρ1 own)
    | none => none
def evComp (fi : EvI) (g : TgE) (t : Ev Bool) (f : Ev R) (own : List Nat) : Ev R := fi.bind fun it ρ1 => match it with
  | (items, none) => match cRun g t f own items ρ1 with
    | some (acc, ρ') => some (.ok ⟨.lst acc, true⟩ ρ')
    | none => none
  | (items, some j) => match ρ1[j]? with
    | some (.own k _) => match cRun g t f own items (lockS ρ1 j) with
      | some (acc, ρ') => some (.ok ⟨.lst acc, true⟩ (unlS j k ρ'))
      | none => none
    | _ => none
section
variable {O : Addr → Prop} {K : Frag} {M : XM} {W : WX} {σ σ0 σ1 σ2 : St} {ρ ρ0 ρ1 ρ2 : Sls} {H H0 H1 H2 : Hp}
theorem wipe_ne {vs : List Nat} {i : Nat} (h : i ∉ vs) : (wipe σ vs)[i]? = σ[i]? := by
  induction vs with
  | nil => rfl
  | cons v vs ih =>
    simp only [List.mem_cons, not_or] at h
    unfold wipe
    rw [List.getElem?_set_ne (Ne.symm h.1)]
    exact ih h.2
theorem wipe_mem {vs : List Nat} {i : Nat} (h : i ∈ vs) (hl : i < σ.length) : (wipe σ vs)[i]? = some none := by
  induction vs with
  | nil => cases h
  | cons v vs ih =>
    unfold wipe
    by_cases e : v = i
    · subst e
      exact List.getElem?_set_self (by rw [wipe_length]; exact hl)
    · rw [List.getElem?_set_ne e]
      exact ih ((List.mem_cons.mp h).resolve_left fun z => e z.symm)
theorem wipeS_len {vs : List Nat} : (wipeS ρ vs).length = ρ.length := by
  induction vs with
  | nil => rfl
  | cons v vs ih => unfold wipeS; rw [List.length_set, ih]
theorem wipeS_ne {vs : List Nat} {i : Nat} (h : i ∉ vs) : (wipeS ρ vs)[i]? = ρ[i]? := by
  induction vs with
  | nil => rfl
  | cons v vs ih =>
    simp only [List.mem_cons, not_or] at h
    unfold wipeS
    rw [List.getElem?_set_ne (Ne.symm h.1)]
    exact ih h.2
theorem wipeS_mem {vs : List Nat} {i : Nat} {s : Slot} (h : i ∈ vs) (e : (wipeS ρ vs)[i]? = some s) : s = .unk := by
  induction vs with
  | nil => cases h
  | cons v vs ih =>
    unfold wipeS at e
    rcases get_set e with ⟨_, z⟩ | ⟨n, z⟩
    · exact z
    · exact ih ((List.mem_cons.mp h).resolve_left n) z
theorem restS_len {vs : List Nat} : (restS ρ ρ1 vs).length = ρ.length := by
  induction vs with
  | nil => rfl
  | cons v vs ih => unfold restS; rw [List.length_set, ih]
theorem restS_ne {vs : List Nat} {i : Nat} (h : i ∉ vs) : (restS ρ ρ1 vs)[i]? = ρ[i]? := by
  induction vs with
  | nil => rfl
  | cons v vs ih =>
    simp only [List.mem_cons, not_or] at h
    unfold restS
    rw [List.getElem?_set_ne (Ne.symm h.1)]
    exact ih h.2
theorem restS_mem {vs : List Nat} {i : Nat} {s : Slot} (h : i ∈ vs) (e : (restS ρ ρ1 vs)[i]? = some s) : s = ρ1.getD i .unk := by
  induction vs with
  | nil => cases h
  | cons v vs ih =>
    unfold restS at e
    rcases get_set e with ⟨q, z⟩ | ⟨n, z⟩
    · rw [q]; exact z
    · exact ih ((List.mem_cons.mp h).resolve_left n) z
theorem noOwn_of {vs : List Nat} (h : noOwn ρ vs = true) : ∀ i ∈ vs, i < ρ.length ∧ ∀ (k : Nat) (ds : List D), ρ[i]? ≠ some (.own k ds) := by
  induction vs with
  | nil => intro i hi; cases hi
  | cons v vs ih =>
    intro i hi
    unfold noOwn at h
    split at h
    · cases h
    · cases h
    · rename_i h1 h2
      rcases List.mem_cons.mp hi with e | hi
      · subst e
        refine ⟨?_, fun k ds => h1 k ds⟩
        cases q : ρ[i]? with
        | none => exact absurd q h2
        | some s => exact (List.getElem?_eq_some_iff.mp q).1
      · exact ih h i hi
/-- who owns what, with the block's own slots wiped -/
theorem own_wipe {vs : List Nat} (h : noOwn ρ vs = true) {i : Nat} {a : Addr} : OwnAt (wipe σ vs) (wipeS ρ vs) i a ↔ OwnAt σ ρ i a := by
  constructor
  · rintro ⟨⟨k, ds, e1⟩, e2⟩
    by_cases hi : i ∈ vs
    · have := wipeS_mem hi e1; cases this
    · rw [wipeS_ne hi] at e1
      rw [wipe_ne hi] at e2
      exact ⟨⟨k, ds, e1⟩, e2⟩
  · rintro ⟨⟨k, ds, e1⟩, e2⟩
    have hi : i ∉ vs := fun z => (noOwn_of h i z).2 k ds e1
    exact ⟨⟨k, ds, by rw [wipeS_ne hi]; exact e1⟩, by rw [wipe_ne hi]; exact e2⟩
theorem ow_wipe {vs : List Nat} (h : noOwn ρ vs = true) : Ow O (wipe σ vs) (wipeS ρ vs) = Ow O σ ρ := by
  funext a
  unfold Ow
  simp only [own_wipe h]
theorem EnvR.wipe {vs : List Nat} (E : EnvR O K σ H ρ) (h : noOwn ρ vs = true) : EnvR O K (wipe σ vs) H (wipeS ρ vs) := by
  refine ⟨by rw [wipe_length, wipeS_len]; exact E.len, fun i d e => ?_, fun i k ds e => ?_, fun i l a z1 z2 => E.inj i l a ((own_wipe h).mp z1) ((own_wipe h).mp z2), E.out⟩
  · rw [ow_wipe h]
    have hi : i ∉ vs := fun z => by have := wipeS_mem z e; cases this
    rw [wipeS_ne hi] at e
    rw [wipe_ne hi]
    exact E.val i d e
  · rw [ow_wipe h]
    have hi : i ∉ vs := fun z => by have := wipeS_mem z e; cases this
    rw [wipeS_ne hi] at e
    rw [wipe_ne hi]
    exact E.own i k ds e
/-- wiping again, from slots of which only the block's own were stored -/
theorem EnvR.rewipe {vs : List Nat} {σ' : St} (E : EnvR O K σ' H ρ) (h : noOwn ρ vs = true) (hw : L2.wipe σ' vs = L2.wipe σ vs) : EnvR O K (L2.wipe σ vs) H (wipeS ρ vs) := by
  rw [← hw]
  exact E.wipe h
theorem wipe_same {vs : List Nat} {σ' : St} (h : Same3 (fun i => vs.contains i) (wipe σ vs) σ') : wipe σ' vs = wipe σ vs := by
  refine List.ext_getElem? fun i => ?_
  by_cases hi : i ∈ vs
  · have hl : σ'.length = σ.length := h.1.trans (wipe_length σ vs)
    by_cases hlt : i < σ.length
    · rw [wipe_mem hi hlt, wipe_mem hi (by rw [hl]; exact hlt)]
    · rw [List.getElem?_eq_none (by rw [wipe_length, hl]; omega), List.getElem?_eq_none (by rw [wipe_length]; omega)]
  · rw [wipe_ne hi]
    exact h.2 i (by simpa using hi)
theorem wipe_wipe {vs : List Nat} : wipe (wipe σ vs) vs = wipe σ vs := wipe_same .refl
theorem wipeS_wipe_own {vs : List Nat} {σ' : St} (h : noOwn ρ vs = true) (hw : L2.wipe σ' vs = L2.wipe σ vs) {i : Nat} {a : Addr} : OwnAt (L2.wipe σ vs) (wipeS ρ vs) i a ↔ OwnAt σ' ρ i a := by
  rw [← hw]
  exact own_wipe h
/-- from the block's start (wiped) to a state of which only own slots differ: the same with them wiped again -/
theorem Ext.rewipe {vs : List Nat} {σ' : St} {ρb : Sls} (x : Ext (L2.wipe σ vs) ρb H σ' ρ H1) (h : noOwn ρ vs = true) (hw : L2.wipe σ' vs = L2.wipe σ vs) (hb : ∀ i ∈ vs, ∀ (k : Nat) (ds : List D), ρb[i]? ≠ some (.own k ds)) : Ext (L2.wipe σ vs) ρb H (L2.wipe σ vs) (wipeS ρ vs) H1 := by
  have ne : ∀ (i k : Nat) (ds : List D), ρb[i]? = some (.own k ds) → i ∉ vs := fun i k ds e z => hb i z k ds e
  refine ⟨x.keep, fun i a z => x.grow i a ((wipeS_wipe_own h hw).mp z), x.trk, fun i k ds hk e => ?_, fun i k ds hk e => ?_⟩
  · obtain ⟨z1, _⟩ := x.lck i k ds hk e
    exact ⟨by rw [wipeS_ne (ne i k ds e)]; exact z1, rfl⟩
  · obtain ⟨⟨es, z1⟩, _⟩ := x.bor i k ds hk e
    exact ⟨⟨es, by rw [wipeS_ne (ne i k ds e)]; exact z1⟩, rfl⟩
/-- a tracked object that nobody here owns and that was not there at the start may change -/
theorem Ext.updNew {p : Addr} {o : HO} (x : Ext σ ρ H σ1 ρ1 H1) (h0 : H p = none) : Ext σ ρ H σ1 ρ1 (upd H1 p o) :=
  have ne : ∀ a, H a ≠ none → upd H1 p o a = H1 a := fun a n => upd_ne fun z => n (by rw [z]; exact h0)
  ⟨fun a n no => (ne a n).trans (x.keep a n no), x.grow, fun a n => by rw [ne a n]; exact x.trk a n, x.lck, x.bor⟩
theorem Keep.upd {p : Addr} {o : HO} (hp : O p) : Keep O H O (L2.upd H p o) := fun a n _ => ⟨n, upd_ne fun z : a = p => n (by rw [z]; exact hp)⟩
theorem EnvR.updOut {p : Addr} {o : HO} (E : EnvR O K σ H ρ) (hp : O p) : EnvR O K σ (L2.upd H p o) ρ := by
  have k : Keep (Ow O σ ρ) H (Ow O σ ρ) (L2.upd H p o) := Keep.upd (.inl hp)
  refine ⟨E.len, fun i d z => ?_, fun i q ds z => ?_, E.inj, fun a z => ?_⟩
  · obtain ⟨x, h1, h2⟩ := E.val i d z
    exact ⟨x, h1, Rep.keep k _ _ h2⟩
  · obtain ⟨a, xs, h1, h2, h3, h4⟩ := E.own i q ds z
    exact ⟨a, xs, h1, (upd_ne fun e : a = p => h4 (by rw [e]; exact hp)).trans h2, Reps.keep k _ _ h3, h4⟩
  · by_cases e : a = p
    · subst e; rw [upd_same]; exact fun z => nomatch z
    · rw [upd_ne e]; exact E.out a z
/-- the loop of a comprehension, the new list at D -/
theorem cLoop_ok {Op : Addr → Prop} {g : TgE} {t : Ev Bool} {f : Ev R} {vs : List Nat} {items : List D} {J : It} {Q : Hp → Prop} {P : (Addr → Prop) → Hp → Prop} {Dp : Addr} {ρb : Sls} {res : List D × Sls}
    (hO : Op Dp) (h0 : H Dp = none) (E : EnvR Op K (wipe σ vs) (upd H Dp (.lst [])) (wipeS ρb vs)) (hb : noOwn ρb vs = true) (hJ : JOk K J items P)
    (hP : ∀ ρ' H', Ext (wipe σ vs) (wipeS ρb vs) H (wipe σ vs) ρ' H' → EnvR Op K (wipe σ vs) H' ρ' → P (Ow Op (wipe σ vs) ρ') H')
    (h : cLoop g t f vs items [] ρb = some res) (hQ : ∀ H' acc, Ext (wipe σ vs) (wipeS ρb vs) H (wipe σ vs) (wipeS res.2 vs) H' → noOwn res.2 vs = true → EnvR Op K (wipe σ vs) H' (wipeS res.2 vs) → H' Dp = some (.lst acc) → Reps (Ow Op (wipe σ vs) (wipeS res.2 vs)) K H' acc res.1 → Q H') :
    ∃ W' : Nat → Nat → Hp → Prop, (∃ m, W' 0 m (upd H Dp (.lst []))) ∧ ∀ i m H, W' i m H → (J.stop i H ∧ Q H) ∨ (J.go i H ∧ ∃ Nx : Hp → Prop, (∀ H', Nx H' → ∃ m', m' < m ∧ W' (i + 1) m' H') ∧
      ∀ x H', J.yld i H x H' → LG K (fun i => vs.contains i) g x (wipe σ vs) H' fun σ2 H2 => wipe σ2 vs = wipe σ vs ∧ LT K M W0 t σ2 H2 fun b H3 =>
        if b = true then LX K M W0 f σ2 H3 fun y H4 => ∃ acc, H4 Dp = some (.lst acc) ∧ acc.length < sizeLine ∧ Nx (upd H4 Dp (.lst (acc ++ [y]))) else Nx H3) := by
  refine ⟨fun i m H' => m = items.length - i ∧ i ≤ items.length ∧ ∃ ρ' acc accD, noOwn ρ' vs = true ∧ Ext (wipe σ vs) (wipeS ρb vs) H (wipe σ vs) (wipeS ρ' vs) H' ∧ EnvR Op K (wipe σ vs) H' (wipeS ρ' vs) ∧ H' Dp = some (.lst acc) ∧ Reps (Ow Op (wipe σ vs) (wipeS ρ' vs)) K H' acc accD ∧ cLoop g t f vs (items.drop i) accD ρ' = some res,
    ⟨items.length, rfl, Nat.zero_le _, ρb, [], [], hb, (Ext.refl).updNew h0, E, upd_same, .nil, h⟩, ?_⟩
  rintro i m H1 ⟨rfl, hi, ρ1, acc, accD, n1, x1, E1, hD, rA, h1⟩
  obtain ⟨js, jg⟩ := hJ _ _ (fun a z => E1.owNe z) (hP _ H1 x1 E1)
  by_cases hlt : i < items.length
  · obtain ⟨go, yl⟩ := jg i items[i] (List.getElem?_eq_getElem hlt)
    refine .inr ⟨go, fun H' => ∃ ρ' acc accD, noOwn ρ' vs = true ∧ Ext (wipe σ vs) (wipeS ρb vs) H (wipe σ vs) (wipeS ρ' vs) H' ∧ EnvR Op K (wipe σ vs) H' (wipeS ρ' vs) ∧ H' Dp = some (.lst acc) ∧ Reps (Ow Op (wipe σ vs) (wipeS ρ' vs)) K H' acc accD ∧ cLoop g t f vs (items.drop (i + 1)) accD ρ' = some res,
      fun H' n => ⟨items.length - (i + 1), by omega, rfl, hlt, n⟩, fun x H2 y => ?_⟩
    obtain ⟨kp, rx⟩ := yl x H2 y
    have E2 := E1.new kp
    have x2 := x1.trans (Ext.new kp)
    have hD2 : H2 Dp = some (.lst acc) := (kp Dp (by rw [hD]; exact fun z => nomatch z)).trans hD
    have rA2 := Reps.keep (show Keep (Ow Op (wipe σ vs) (wipeS ρ1 vs)) H1 (Ow Op (wipe σ vs) (wipeS ρ1 vs)) H2 from fun a n z => ⟨n, kp a z⟩) _ _ rA
    rw [List.drop_eq_getElem_cons hlt] at h1
    unfold cLoop at h1
    cases eg : g ⟨items[i], false⟩ (wipeS ρ1 vs) with
    | none => simp only [eg] at h1; cases h1
    | some ρ2 =>
      simp only [eg] at h1
      refine ⟨Op, wipe σ vs, wipeS ρ1 vs, H2, wipeS ρ1 vs, ⟨items[i], false⟩, E2.out, ⟨.refl, E2, rx, fun z => nomatch z⟩, ρ2, eg, fun σ3 H3 p3 s3 => ?_⟩
      have hw := wipe_same s3
      refine ⟨hw, Op, ρ2, p3.env, ?_⟩
      have x3 := x2.trans p3.ext
      have noD : ∀ {σ' : St} {ρ' : Sls} {H' : Hp}, EnvR Op K σ' H' ρ' → ∀ i, ¬ OwnAt σ' ρ' i Dp := fun {σ' ρ' H'} E' i ⟨⟨k, ds, e1⟩, e2⟩ => by
        obtain ⟨a, xs, g1, _, _, g4⟩ := E'.own i k ds e1
        rw [e2] at g1; cases g1
        exact g4 hO
      have hD3 : H3 Dp = some (.lst acc) := (p3.ext.keep Dp (by rw [hD2]; exact fun z => nomatch z) (noD E2)).trans hD2
      have rA3 := Reps.keep p3.ext.kp _ _ rA2
      have nb : ∀ i ∈ vs, ∀ (k : Nat) (ds : List D), (wipeS ρb vs)[i]? ≠ some (.own k ds) := fun i hi k ds e => by have := wipeS_mem hi e; cases this
      revert h1
      generalize t ρ2 = tr
      intro h1
      match tr, h1 with
      | some (.ok false ρ3), h1 =>
        simp only at h1
        intro H4 x4 E4
        rw [if_neg Bool.false_ne_true]
        split at h1
        · rename_i hn
          have hD4 : H4 Dp = some (.lst acc) := (x4.keep Dp (by rw [hD3]; exact fun z => nomatch z) (noD p3.env)).trans hD3
          have rA4 := Reps.keep x4.kp _ _ rA3
          refine ⟨ρ3, acc, accD, hn, (x3.trans x4).rewipe hn hw nb, E4.rewipe hn hw, hD4, ?_, h1⟩
          have e : Ow Op (wipe σ vs) (wipeS ρ3 vs) = Ow Op σ3 ρ3 := by rw [← hw]; exact ow_wipe hn
          rw [e]; exact rA4
        · cases h1
      | some (.ok true ρ3), h1 =>
        simp only at h1
        intro H4 x4 E4
        rw [if_pos rfl]
        refine ⟨Op, ρ3, E4, ?_⟩
        have hD4 : H4 Dp = some (.lst acc) := (x4.keep Dp (by rw [hD3]; exact fun z => nomatch z) (noD p3.env)).trans hD3
        have rA4 := Reps.keep x4.kp _ _ rA3
        revert h1
        generalize f ρ3 = fr
        intro h1
        match fr, h1 with
        | some (.ok r ρ4), h1 =>
          simp only at h1
          intro yv H5 p5
          split at h1
          · rename_i hn
            rw [Bool.and_eq_true] at hn
            have hD5 : H5 Dp = some (.lst acc) := (p5.ext.keep Dp (by rw [hD4]; exact fun z => nomatch z) (noD E4)).trans hD4
            have rA5 := Reps.keep p5.ext.kp _ _ rA4
            refine ⟨acc, hD5, by rw [lim_eq, rA.length]; exact Nat.le_of_ble_eq_true hn.2, ρ4, acc ++ [yv], accD ++ [r.d], hn.1, ?_, ?_, upd_same, ?_, h1⟩
            · exact (((x3.trans x4).trans p5.ext).rewipe hn.1 hw nb).updNew h0
            · exact (p5.env.rewipe hn.1 hw).updOut hO
            · have e : Ow Op (wipe σ vs) (wipeS ρ4 vs) = Ow Op σ3 ρ4 := by rw [← hw]; exact ow_wipe hn.1
              rw [e]
              exact Reps.keep (Keep.upd (.inl hO)) _ _ (rA5.app (.cons p5.rep .nil))
          · cases h1
        | some (.ex _ _), h1 => cases h1
        | none, h1 => cases h1
      | some (.ex _ _), h1 => cases h1
      | none, h1 => cases h1
  · have e : i = items.length := by omega
    subst e
    rw [List.drop_eq_nil_of_le (Nat.le_refl _)] at h1
    cases h1
    exact .inl ⟨js, hQ H1 acc x1 n1 E1 hD rA⟩
theorem rest_own {vs : List Nat} (n1 : noOwn ρ1 vs = true) (n2 : noOwn ρ vs = true) {i : Nat} {a : Addr} : OwnAt σ (restS ρ ρ1 vs) i a ↔ OwnAt (wipe σ vs) (wipeS ρ vs) i a := by
  constructor
  · rintro ⟨⟨k, ds, e1⟩, e2⟩
    by_cases hi : i ∈ vs
    · have q := restS_mem hi e1
      have := (noOwn_of n1 i hi).2 k ds
      rw [List.getD_eq_getElem?_getD] at q
      cases h : ρ1[i]? with
      | none => rw [h] at q; cases q
      | some s => rw [h] at q; simp at q; subst q; exact absurd h this
    · rw [restS_ne hi] at e1
      exact ⟨⟨k, ds, by rw [wipeS_ne hi]; exact e1⟩, by rw [wipe_ne hi]; exact e2⟩
  · rintro ⟨⟨k, ds, e1⟩, e2⟩
    by_cases hi : i ∈ vs
    · have := wipeS_mem hi e1; cases this
    · rw [wipeS_ne hi] at e1
      rw [wipe_ne hi] at e2
      exact ⟨⟨k, ds, by rw [restS_ne hi]; exact e1⟩, e2⟩
theorem rest_ow {vs : List Nat} (n1 : noOwn ρ1 vs = true) (n2 : noOwn ρ vs = true) : Ow O σ (restS ρ ρ1 vs) = Ow O (wipe σ vs) (wipeS ρ vs) := by
  funext a
  unfold Ow
  simp only [rest_own n1 n2]
theorem rest_ext {vs : List Nat} (n1 : noOwn ρ1 vs = true) (n2 : noOwn ρ vs = true) (x : Ext (wipe σ vs) (wipeS ρ1 vs) H (wipe σ vs) (wipeS ρ vs) H1) : Ext σ ρ1 H σ (restS ρ ρ1 vs) H1 := by
  have ne : ∀ (i k : Nat) (ds : List D), ρ1[i]? = some (.own k ds) → i ∉ vs := fun i k ds e z => (noOwn_of n1 i z).2 k ds e
  refine ⟨fun a n no => x.keep a n fun i z => no i ((own_wipe n1).mp z), fun i a z => ?_, x.trk, fun i k ds hk e => ?_, fun i k ds hk e => ?_⟩
  · rcases x.grow i a ((rest_own n1 n2).mp z) with ⟨j, q⟩ | q
    · exact .inl ⟨j, (own_wipe n1).mp q⟩
    · exact .inr q
  · have hi := ne i k ds e
    obtain ⟨z1, _⟩ := x.lck i k ds hk (by rw [wipeS_ne hi]; exact e)
    rw [wipeS_ne hi] at z1
    exact ⟨by rw [restS_ne hi]; exact z1, rfl⟩
  · have hi := ne i k ds e
    obtain ⟨⟨es, z1⟩, _⟩ := x.bor i k ds hk (by rw [wipeS_ne hi]; exact e)
    rw [wipeS_ne hi] at z1
    exact ⟨⟨es, by rw [restS_ne hi]; exact z1⟩, rfl⟩
theorem rest_env {vs : List Nat} {Op : Addr → Prop} (n1 : noOwn ρ1 vs = true) (n2 : noOwn ρ vs = true) (E1 : EnvR O K σ H ρ1) (hl : σ.length = ρ.length) (kp : Keep (Ow O σ ρ1) H (Ow Op σ (restS ρ ρ1 vs)) H1) (E : EnvR Op K (wipe σ vs) H1 (wipeS ρ vs)) : EnvR Op K σ H1 (restS ρ ρ1 vs) := by
  refine ⟨by rw [restS_len]; exact hl, fun i d e => ?_, fun i k ds e => ?_, fun i l a z1 z2 => E.inj i l a ((rest_own n1 n2).mp z1) ((rest_own n1 n2).mp z2), E.out⟩
  · by_cases hi : i ∈ vs
    · have q := restS_mem hi e
      rw [List.getD_eq_getElem?_getD] at q
      cases h : ρ1[i]? with
      | none => rw [h] at q; cases q
      | some s =>
        rw [h] at q; simp at q; subst q
        obtain ⟨x, g1, g2⟩ := E1.val i d h
        exact ⟨x, g1, Rep.keep kp _ _ g2⟩
    · rw [restS_ne hi] at e
      rw [rest_ow n1 n2]
      have z := E.val i d (by rw [wipeS_ne hi]; exact e)
      rw [wipe_ne hi] at z
      exact z
  · by_cases hi : i ∈ vs
    · have q := restS_mem hi e
      rw [List.getD_eq_getElem?_getD] at q
      cases h : ρ1[i]? with
      | none => rw [h] at q; cases q
      | some s => rw [h] at q; simp at q; subst q; exact absurd h ((noOwn_of n1 i hi).2 k ds)
    · rw [restS_ne hi] at e
      rw [rest_ow n1 n2]
      have z := E.own i k ds (by rw [wipeS_ne hi]; exact e)
      rw [wipe_ne hi] at z
      exact z
/-- one run of a comprehension, from the slots ρ1 -/
theorem cRun_ok {g : TgE} {t : Ev Bool} {f : Ev R} {vs : List Nat} {items : List D} {J : It} {Q : VK} {P : (Addr → Prop) → Hp → Prop} {acc : List D} {ρ' : Sls} (E1 : EnvR O K σ H ρ1) (hJ : JOk K J items P)
    (hP : ∀ Op ρ2 H', (∀ a, O a → Op a) → Ext (wipe σ vs) (wipeS ρ1 vs) H (wipe σ vs) ρ2 H' → EnvR Op K (wipe σ vs) H' ρ2 → (∀ a, H a ≠ none → ¬ O a → ¬ Op a) → P (Ow Op (wipe σ vs) ρ2) H') (h : cRun g t f vs items ρ1 = some (acc, ρ'))
    (hQ : ∀ x H', Post O K σ ρ1 H ⟨.lst acc, true⟩ ρ' x H' → Q x H') : ∀ Dp, H Dp = none →
    ∃ W' : Nat → Nat → Hp → Prop, (∃ m, W' 0 m (upd H Dp (.lst []))) ∧ ∀ i m H, W' i m H → (J.stop i H ∧ Q (.ref Dp) H) ∨ (J.go i H ∧ ∃ Nx : Hp → Prop, (∀ H', Nx H' → ∃ m', m' < m ∧ W' (i + 1) m' H') ∧
      ∀ x H', J.yld i H x H' → LG K (fun i => vs.contains i) g x (wipe σ vs) H' fun σ2 H2 => wipe σ2 vs = wipe σ vs ∧ LT K M W0 t σ2 H2 fun b H3 =>
        if b = true then LX K M W0 f σ2 H3 fun y H4 => ∃ acc, H4 Dp = some (.lst acc) ∧ acc.length < sizeLine ∧ Nx (upd H4 Dp (.lst (acc ++ [y]))) else Nx H3) := fun Dp h0 => by
  unfold cRun at h
  split at h
  · cases h
  rename_i n1
  split at h
  rotate_left
  · cases h
  rename_i acc' ρe hl
  cases h
  have k1 : ∀ a, H a ≠ none → upd H Dp (.lst []) a = H a := fun a n => upd_ne fun z : a = Dp => n (by rw [z]; exact h0)
  have E2 : EnvR (fun a => O a ∨ a = Dp) K σ (upd H Dp (.lst [])) ρ1 := E1.newOut k1 h0 (by rw [upd_same]; exact fun z => nomatch z)
  refine cLoop_ok (Op := fun a => O a ∨ a = Dp) (res := (acc, ρe)) (.inr rfl) h0 (E2.wipe n1) n1 hJ (fun ρ2 H' x E => hP _ ρ2 H' (fun a z => .inl z) x E fun a n no z => z.elim no fun e => n (by rw [e]; exact h0)) hl ?_
  intro H' accV x nn E hD hr
  have X := rest_ext n1 nn x
  have E3 := E1
  have kp : Keep (Ow O σ ρ1) H (Ow (fun a => O a ∨ a = Dp) σ (restS ρe ρ1 vs)) H' := fun a n z => by
    obtain ⟨q1, q2⟩ := X.kp (O := O) a n z
    refine ⟨fun q => ?_, q2⟩
    rcases q with (q | q) | q
    · exact q1 (.inl q)
    · exact z (by rw [q]; exact h0)
    · exact q1 (.inr q)
  have hlen : σ.length = ρe.length := by
    have := E.len
    rw [wipe_length, wipeS_len] at this
    exact this
  have Ef : EnvR (fun a => O a ∨ a = Dp) K σ H' (restS ρe ρ1 vs) := rest_env n1 nn E1 hlen kp E
  have Eo : EnvR O K σ H' (restS ρe ρ1 vs) := Ef.lessOut fun a z => .inl z
  have hr' : Reps (Ow (fun a => O a ∨ a = Dp) σ (restS ρe ρ1 vs)) K H' accV acc := by rw [rest_ow n1 nn]; exact hr
  refine hQ _ _ ⟨X, Eo, .lst (fun z => ?_) hD (Reps.keep (Keep.less fun a z => ?_) _ _ hr'), fun _ => ⟨Dp, accV, acc, rfl, rfl, h0, hD, hr', Ef⟩⟩
  · rcases z with z | ⟨i, ⟨k, ds, e1⟩, e2⟩
    · exact E1.out _ z h0
    · obtain ⟨a, xs, g1, g2, g3, g4⟩ := Ef.own i k ds e1
      rw [e2] at g1; cases g1
      exact g4 (.inr rfl)
  · rcases z with z | z
    · exact .inl (.inl z)
    · exact .inr z
theorem comp_ok {fi : EvI} {g : TgE} {t : Ev Bool} {f : Ev R} {vs : List Nat} {Q : VK} (h : LX K M W (evComp fi g t f vs) σ H Q) : tLc (LI K M W fi) (LG K (fun i => vs.contains i) g) (LT K M W0 t) (LX K M W0 f) vs σ H Q := by
  obtain ⟨O, ρ, E, h⟩ := h
  refine ⟨O, ρ, E, (Res.bind (f := fi) h).mono fun it ρ1 h1 J H1 x1 E1 iok => ?_⟩
  obtain ⟨P, hJ, hp⟩ := iok
  obtain ⟨items, lk⟩ := it
  rcases hp with ⟨e, hp, keep⟩ | ⟨j, k, a, e, hj, ha, hp⟩
  · have e : lk = none := e
    subst e
    simp only at h1
    cases hc : cRun g t f vs items ρ1 with
    | none => simp only [hc] at h1; exact h1.elim
    | some res =>
      obtain ⟨acc, ρ'⟩ := res
      simp only [hc] at h1
      have n1 : noOwn ρ1 vs = true := by
        unfold cRun at hc
        split at hc
        · cases hc
        · assumption
      refine cRun_ok E1 hJ (fun Op ρ2 H' ho x E2 hn => ?_) hc fun x H' p => h1 x H' (p.after x1)
      refine keep _ _ _ _ (fun a n z => ?_) hp
      have q := x.kp (O := O) a (by rw [ow_wipe n1]; exact n) z
      refine ⟨fun y => ?_, q.2⟩
      rcases y with y | y
      · exact hn a z (fun w => n (.inl w)) y
      · exact q.1 (.inr y)
  · have e : lk = some j := e
    subst e
    simp only at h1
    have hj : ρ1[j]? = some (.own k items) := hj
    simp only [hj] at h1
    cases hc : cRun g t f vs items (lockS ρ1 j) with
    | none => simp only [hc] at h1; exact h1.elim
    | some res =>
      obtain ⟨acc, ρ'⟩ := res
      simp only [hc] at h1
      have n1 : noOwn (lockS ρ1 j) vs = true := by
        unfold cRun at hc
        split at hc
        · cases hc
        · assumption
      obtain ⟨k', hk', hlk, _⟩ := lock_at hj
      have jn : j ∉ vs := fun z => (noOwn_of n1 j z).2 _ _ hlk
      refine cRun_ok (lock_env E1) hJ (fun Op ρ2 H' ho x E2 hn => ?_) hc fun x H' p => h1 x H' ?_
      · obtain ⟨z1, z2⟩ := x.lck j k' items hk' (by rw [wipeS_ne jn]; exact hlk)
        obtain ⟨b, xs, g1, g2, g3, _⟩ := E2.own _ _ _ z1
        rw [wipe_ne jn, ha] at g1; cases g1
        exact hp _ _ ⟨xs, g2, g3⟩
      · refine Post.after x1 ⟨relock hj p.ext, unl_env p.env, by rw [unl_ow]; exact p.rep, fun hf => ?_⟩
        obtain ⟨q, xs, ds, q1, q2, q3, q4, q5, q6⟩ := p.fr hf
        exact ⟨q, xs, ds, q1, q2, q3, q4, by rw [unl_ow]; exact q5, unl_env q6⟩
end
def evYes : Ev Bool := Ev.ret true
theorem yes_ok {K : Frag} {M : XM} {W : WX} {σ : St} {H : Hp} {Q : Bool → Hp → Prop} (h : LT K M W evYes σ H Q) : tYes σ H Q := by
  obtain ⟨O, ρ, E, h⟩ := h
  exact h H .refl E
theorem ptsImp {X : Cx} {e : List Expr} {t t' : TT} (h : PTs X e t) (k : ∀ σ H Q, t' σ H Q → t σ H Q) : PTs X e t' := ⟨fun pins s σ H Q I q => h.run pins s σ H Q I (k σ H Q q)⟩
section
variable {X : Cx} {M : XM} {W : WX}
theorem ts_nil : PTs X [] (LT X.K M W evYes) := ptsImp pts_nil fun _ _ _ h => yes_ok h
theorem ts_one {c : Expr} {t : Ev Bool} (h : PT X c (LT X.K M W t)) : PTs X [c] (LT X.K M W t) := pts_one h
theorem x_comp {elt tg iter : Expr} {ifs : List Expr} {scope : Scope} {own : List (Str × Nat)} {pos : Pos} {fi : EvI} {g : TgE} {t : Ev Bool} {f : Ev R} (hc : X.calm = true) (hN : X.N.Nodup) (hi : PI X tg iter (LI X.K M W fi)) (ok : BlkOk X.N X.env.scope scope own)
    (hg : ∀ (s : Shared) (H : Hp) (C : Addr) (cl : List (Str × Addr)) (fp : List Addr), PG (X.blk s H scope (compEnvC scope cl C X.env) fp) tg (LG X.K (fun i => (own.map (·.2)).contains i) g))
    (ht : ∀ (s : Shared) (H : Hp) (C : Addr) (cl : List (Str × Addr)) (fp : List Addr), PTs (X.blk s H scope (compEnvC scope cl C X.env) fp) ifs (LT X.K M W0 t))
    (he : ∀ (s : Shared) (H : Hp) (C : Addr) (cl : List (Str × Addr)) (fp : List Addr), PE (X.blk s H scope (compEnvC scope cl C X.env) fp) elt (LX X.K M W0 f)) (hs : ∀ x, foldedSetIterable iter X.env x = pure x) :
    PE X (.ListComp elt [⟨tg, iter, ifs, 0⟩] scope pos) (LX X.K M W (evComp fi g t f (own.map (·.2)))) :=
  peImp (pe_lc hc hN hi ok hg ht he hs) fun _ _ _ h => comp_ok h
theorem s_setComp {i : Nat} {y : Str} {py : Pos} {elt tg iter : Expr} {ifs : List Expr} {scope : Scope} {own : List (Str × Nat)} {pos spos : Pos} {fi : EvI} {g : TgE} {t : Ev Bool} {f : Ev R} (hc : X.calm = true) (hN : X.N.Nodup) (hy : X.N[i]? = some y) (hyl : X.env.scope.names.lookup y = some .local)
    (hsw : swapsWith (.ListComp elt [⟨tg, iter, ifs, 0⟩] scope pos) (some (.Name y py)) spos.line X.env = pure true) (hi : PI X tg iter (LI X.K M W fi)) (ok : BlkOk X.N X.env.scope scope own)
    (hg : ∀ (s : Shared) (H : Hp) (C : Addr) (cl : List (Str × Addr)) (fp : List Addr), PG (X.blk s H scope (compEnvC scope cl C X.env) fp) tg (LG X.K (fun i => (own.map (·.2)).contains i) g))
    (ht : ∀ (s : Shared) (H : Hp) (C : Addr) (cl : List (Str × Addr)) (fp : List Addr), PTs (X.blk s H scope (compEnvC scope cl C X.env) fp) ifs (LT X.K M W0 t))
    (he : ∀ (s : Shared) (H : Hp) (C : Addr) (cl : List (Str × Addr)) (fp : List Addr), PE (X.blk s H scope (compEnvC scope cl C X.env) fp) elt (LX X.K M W0 f)) (hs : ∀ x, foldedSetIterable iter X.env x = pure x) :
    PS X (.Assign [.Name y py] (.ListComp elt [⟨tg, iter, ifs, 0⟩] scope pos) spos) (LS X.K M W (sSet (asgSl i) (evComp fi g t f (own.map (·.2))))) := by
  refine psImp (ps_setLc hc hN hy hyl hsw hi ok hg ht he hs) fun D σ H h => ?_
  obtain ⟨O, ρ, E, h'⟩ := set_ok (z := fun j => Nat.beq j i) h
  refine comp_ok (W := W) ⟨O, ρ, E, h'.mono fun r ρ' q y H' p => ?_⟩
  obtain ⟨O, σ0, ρ0, H0, ρ, r, out, p, ρ', e, q⟩ := q y H' p
  exact q _ _ (asg_ok out p e) (Same3.set (Nat.beq_refl i))
end
end L3

/-! E12: append, pop(i), x[i] = e, calls of defs, a def by its body. -/
namespace L3
open PySem L2
section
variable {O : Addr → Prop} {K : Frag} {M : XM} {W : WX} {σ σ0 σ1 σ2 : St} {ρ ρ0 ρ1 ρ2 : Sls} {H H0 H1 H2 : Hp}
def isOwn (ρ : Sls) (i : Nat) : Bool := match ρ[i]? with
  | some (.own _ _) => true
  | _ => false
theorem isOwn_of {i : Nat} (h : isOwn ρ i = true) : ∃ (k : Nat) (ds : List D), ρ[i]? = some (.own k ds) := by
  unfold isOwn at h
  split at h
  · exact ⟨_, _, by assumption⟩
  · cases h
def evAppend (i : Nat) (f : Ev R) : Ev R := fun ρ => match isOwn ρ i with
  | false => none
  | true => (f.bind fun r ρ => match ρ[i]? with
    | some (.own k ds) => match mutable k && Nat.blt ds.length LIM with
      | true => some (.ok ⟨.non, false⟩ (ρ.set i (.own k (ds ++ [r.d]))))
      | false => none
    | _ => none) ρ
theorem append_ok {i : Nat} {f : Ev R} {Q : VK} (h : LX K M W (evAppend i f) σ H Q) : tBM K "list" rAppend (tVar i) (LAs K M W [.e f]) σ H Q := by
  obtain ⟨O, ρ, E, h⟩ := h
  unfold evAppend at h
  split at h
  · exact h.elim
  rename_i ho
  obtain ⟨k0, ds0, e0⟩ := isOwn_of ho
  obtain ⟨a, xs0, h1, h2, _⟩ := E.own i k0 ds0 e0
  refine ⟨_, h1, .inl ⟨rfl, _, SqL.of h2⟩, O, ρ, E, ?_⟩
  refine (Res.bind (f := f) h).mono fun r ρ1 h3 x H1 p => ?_
  split at h3
  · rename_i k ds e
    split at h3
    · rename_i c
      rw [Bool.and_eq_true] at c
      obtain ⟨b, xs, g1, g2, g3, g4⟩ := p.env.own i k ds e
      rw [h1] at g1; cases g1
      obtain ⟨q1, q2, q3⟩ := p.env.change (ds' := ds ++ [r.d]) e (Nat.le_of_ble_eq_true c.1) h1 (g3.app (.cons p.rep .nil))
      refine ⟨a, xs, x, rfl, rfl, g2, by rw [lim_eq, g3.length]; exact Nat.le_of_ble_eq_true c.2, ?_⟩
      exact h3 .non _ ⟨p.ext.trans q1, q2, .non, fun z => nomatch z⟩
    · exact h3.elim
  · exact h3.elim
def evPopAt (i : Nat) (f : Ev R) : Ev R := fun ρ => match isOwn ρ i with
  | false => none
  | true => (f.bind fun r ρ => match r.d, ρ[i]? with
    | .int j, some (.own k ds) => match mutable k && Nat.ble ds.length LIM, ixN ds.length j with
      | true, some n => match ds[n]? with
        | some d => some (.ok ⟨d, false⟩ (ρ.set i (.own k (ds.eraseIdx n))))
        | none => none
      | _, _ => none
    | _, _ => none) ρ
theorem popAt_ok {i : Nat} {f : Ev R} {Q : VK} (h : LX K M W (evPopAt i f) σ H Q) : tBM K "list" rPopAt (tVar i) (LAs K M W [.e f]) σ H Q := by
  obtain ⟨O, ρ, E, h⟩ := h
  unfold evPopAt at h
  split at h
  · exact h.elim
  rename_i ho
  obtain ⟨k0, ds0, e0⟩ := isOwn_of ho
  obtain ⟨a, xs0, h1, h2, _⟩ := E.own i k0 ds0 e0
  refine ⟨_, h1, .inl ⟨rfl, _, SqL.of h2⟩, O, ρ, E, ?_⟩
  refine (Res.bind (f := f) h).mono fun r ρ1 h3 x H1 p => ?_
  have rp := p.rep
  split at h3
  · rename_i j k ds er e
    rw [er] at rp
    cases rp
    split at h3
    · rename_i n c1 c2
      split at h3
      · rename_i d c3
        obtain ⟨b, xs, g1, g2, g3, g4⟩ := p.env.own i k ds e
        rw [h1] at g1; cases g1
        rw [Bool.and_eq_true] at c1
        obtain ⟨q1, q2, q3⟩ := p.env.change (ds' := ds.eraseIdx n) e (Nat.le_of_ble_eq_true c1.1) h1 (g3.erase n)
        obtain ⟨y, hy, ry⟩ := g3.get c3
        rw [← g3.length] at c2
        obtain ⟨z1, z2, z3, z4⟩ := ixN_seq c2
        have hl : xs.length ≤ 16777216 := by rw [g3.length]; exact Nat.le_of_ble_eq_true c1.2
        refine ⟨a, xs, j, n, y, rfl, rfl, g2, by omega, by omega, z1, hy, ?_⟩
        exact h3 y _ ⟨p.ext.trans q1, q2, Rep.keep q3 _ _ ry, fun z => nomatch z⟩
      · exact h3.elim
    · exact h3.elim
  · exact h3.elim
/-- x[i] = e: the value first, then the place -/
def sSetIx (i : Nat) (fi : Ev R) (fv : Ev R) : EvS := fun ρ => match (fv.bind fun r ρ1 => match isOwn ρ1 i with
    | false => none
    | true => (fi.bind fun j ρ2 => match j.d, ρ2[i]? with
      | .int n, some (.own k ds) => match mutable k, ixN ds.length n with
        | true, some m => some (.ok () (ρ2.set i (.own k (ds.set m r.d))))
        | _, _ => none
      | _, _ => none) ρ1) ρ with
  | none => none
  | some (.ok _ ρ') => some (.nx ρ')
  | some (.ex e ρ') => some (.ex e ρ')
theorem setIx_ok {i : Nat} {fi fv : Ev R} {D' : Ends} (h : LS K M W (sSetIx i fi fv) D' σ H) : tAsg (LX K M W fv) (L2.gSub (tVar i) (LX K M W fi) rSetL) D' σ H := by
  obtain ⟨O, ρ, E, h⟩ := h
  refine ⟨O, ρ, E, ?_⟩
  have h' : Res K M W O σ ρ H (fun (_ : Unit) ρ' => ∀ H', SPost O K σ ρ H ρ' σ H' → D'.nx σ H') ((fv.bind fun r ρ1 => match isOwn ρ1 i with
    | false => none
    | true => (fi.bind fun j ρ2 => match j.d, ρ2[i]? with
      | .int n, some (.own k ds) => match mutable k, ixN ds.length n with
        | true, some m => some (.ok () (ρ2.set i (.own k (ds.set m r.d))))
        | _, _ => none
      | _, _ => none) ρ1) ρ) := by
    unfold sSetIx at h
    revert h
    generalize (fv.bind _ ρ) = m
    intro h
    match m, h with
    | some (.ok _ ρ'), h => exact fun H' p => h σ H' p
    | some (.ex e ρ'), h => exact fun cls d H' p => h cls d σ H' p
  refine (Res.bind (f := fv) h').mono fun r ρ1 h1 v H1 p => ?_
  split at h1
  · exact h1.elim
  rename_i ho
  obtain ⟨k0, ds0, e0⟩ := isOwn_of ho
  obtain ⟨a, xs0, g1, g2, _⟩ := p.env.own i k0 ds0 e0
  refine ⟨_, g1, O, ρ1, p.env, ?_⟩
  refine (Res.bind (f := fi) (Res.after p.ext h1)).mono fun j ρ2 h2 y H2 p2 => ?_
  have rp := p2.rep
  split at h2
  · rename_i n k ds ej e
    rw [ej] at rp
    cases rp
    split at h2
    · rename_i m c1 c2
      obtain ⟨b, xs, q1, q2, q3, q4⟩ := p2.env.own i k ds e
      rw [g1] at q1; cases q1
      obtain ⟨z1, z2, z3⟩ := p2.env.change (ds' := ds.set m r.d) e (Nat.le_of_ble_eq_true c1) g1 (q3.set (Rep.keep p2.ext.kp _ _ p.rep) m)
      exact ⟨a, xs, n, m, rfl, rfl, q2, by rw [q3.length]; exact c2, h2 _ ⟨(p.ext.trans p2.ext).trans z1, z2⟩⟩
    · exact h2.elim
  · exact h2.elim
/-- i op= e (ints, texts) -/
def gIAdd : List D → Option R
  | [.int i, .int j] => some ⟨.int (i + j), false⟩
  | [.str i, .str j] => gd (Nat.ble (i.length + j.length) LIM) ⟨.str (i ++ j), false⟩
  | _ => none
end
section
variable {X : Cx} {M : XM} {W : WX} {pos : Pos}
theorem x_append {i : Nat} {x : Str} {p apos cpos : Pos} {e : Expr} {f : Ev R} (hN : X.N[i]? = some x) (hv : Vis X.env.scope x) (hd : (x == ("__debug__" : Str)) = false) (hcd : (x == ("__classdict__" : Str)) = false) (he : PA X [e] (LAs X.K M W [.e f]))
    (h1 : ((((backTo cpos (starEach [e] X.env)).all fun x => !x.fst) && (backToKw cpos (keywordEach [] X.env)).all fun x => x.fst.isSome) && decide (([e].length + ([] : List Keyword).length + if ([] : List Keyword).isEmpty = true then 0 else 1) < 30)) = true)
    (h2 : (apos.endLine == cpos.line) = true) (h3 : starEach [e] X.env = (false, eval e X.env) :: starEach [] X.env) (h4 : ((backTo cpos (starEach [] X.env)).any fun x => x.fst) = false) :
    PE X (.Call (.Attribute (.Name x p) "append" apos) [e] [] cpos) (LX X.K M W (evAppend i f)) :=
  peImp (pe_bm PySem.F.plainAttrs_list PySem.F.slot_list_append PySem.F.type_list_append mt_append (pe_var hN hv hd hcd) he rfl h1 h2 h3 h4) fun _ _ _ h => append_ok h
theorem x_pop {i : Nat} {x : Str} {p apos cpos : Pos} (hN : X.N[i]? = some x) (hv : Vis X.env.scope x) (hd : (x == ("__debug__" : Str)) = false) (hcd : (x == ("__classdict__" : Str)) = false) (h2 : (apos.endLine == cpos.line) = true) :
    PE X (.Call (.Attribute (.Name x p) "pop" apos) [] [] cpos) (LX X.K M W (evPop i)) :=
  peImp (pe_bm0 PySem.F.plainAttrs_list PySem.F.slot_list_pop PySem.F.type_list_pop mt_pop (pe_var hN hv hd hcd) rfl h2) fun _ _ _ h => pop_ok h
theorem s_setIx {i : Nat} {x : Str} {p p2 : Pos} {ix e : Expr} {fi fv : Ev R} (hN : X.N[i]? = some x) (hv : Vis X.env.scope x) (hd : (x == ("__debug__" : Str)) = false) (hcd : (x == ("__classdict__" : Str)) = false) (hi : PE X ix (LX X.K M W fi)) (he : PE X e (LX X.K M W fv))
    (h1 : ∀ v, assign (.Subscript (.Name x p) ix p2) X.env v = (do
      let ov ← holding [v] (eval (.Name x p) X.env)
      let iv ← holding [v, ov] (eval ix X.env)
      standAt p2
      holding [v, ov, iv] (setItem ov iv v)
      release [v, ov, iv] []))
    (hs : swapsWithSole [.Subscript (.Name x p) ix p2] e pos.line X.env = pure false) (hw : swappedStores [.Subscript (.Name x p) ix p2] e X.env = pure none) :
    PS X (.Assign [.Subscript (.Name x p) ix p2] e pos) (LS X.K M W (sSetIx i fi fv)) :=
  psImp (ps_asg he (pg_sub (pe_var hN hv hd hcd) hi set_list h1) hs hw rfl) fun _ _ _ h => setIx_ok h
end

/-! ### calls -/
/-- the argument slots of a call: a list of one's own is lent -/
def argSl (ρ : Sls) : List (Nat ⊕ D) → Option Sls
  | [] => some []
  | .inr d :: rs => (argSl ρ rs).map (.v d :: ·)
  | .inl i :: rs => match ρ[i]?, argSl ρ rs with
    | some (.v d), some as => some (.v d :: as)
    | some (.own k ds), some as => some (.own (if Nat.blt k 2 then 1 else 3) ds :: as)
    | _, _ => none
def ownLate (ρ : Sls) : List (Nat ⊕ D) → List Nat
  | [] => []
  | .inr _ :: rs => ownLate ρ rs
  | .inl i :: rs => match ρ[i]? with
    | some (.own _ _) => i :: ownLate ρ rs
    | _ => ownLate ρ rs
/-- .. given back -/
def backSl (ρ : Sls) : List (Nat ⊕ D) → Sls → Sls
  | .inl i :: rs, s :: as => match ρ[i]?, s with
    | some (.own k _), .own _ ds => (backSl ρ rs as).set i (.own k ds)
    | _, _ => backSl ρ rs as
  | _ :: rs, _ :: as => backSl ρ rs as
  | _, _ => ρ
def evCallR (fe : Ev R) (rs : List (Nat ⊕ D)) : Ev R := fun ρ => match argSl ρ rs, decide (ownLate ρ rs).Nodup with
  | some sl, true => match fe sl with
    | none => none
    | some (.ok r sl') => some (.ok r (backSl ρ rs sl'))
    | some (.ex e sl') => some (.ex e (backSl ρ rs sl'))
  | _, _ => none
def evCall (fe : Ev R) (as : List SA) : Ev R := (evAs as).bind fun rs => evCallR fe rs
/-- arguments put in another order -/
def permL {α : Type} (xs : List α) : List Nat → Option (List α)
  | [] => some []
  | i :: is => match xs[i]?, permL xs is with
    | some x, some ys => some (x :: ys)
    | _, _ => none
def evCallK (fe : Ev R) (as : List SA) (perm : List Nat) : Ev R := (evAs as).bind fun rs ρ => match permL rs perm with
  | some rs' => evCallR fe rs' ρ
  | none => none
/-- a def's promise by its evaluation -/
def spF (K : Frag) (M : XM) (fe : Ev R) : Sp := fun vs H Q E => LX K M (fun cls d _ H' => E cls d H') fe (vs.map some) H Q
/-- what the argument slots are -/
inductive AS (O : Addr → Prop) (K : Frag) (σ : St) (ρ : Sls) (H : Hp) : List V → List (Nat ⊕ D) → Sls → Prop
  | nil : AS O K σ ρ H [] [] []
  | val {x : V} {xs : List V} {r : Nat ⊕ D} {rs : List (Nat ⊕ D)} {d : D} {as : Sls} : Rep (Ow O σ ρ) K H x d → (∀ i (k : Nat) (ds : List D), r = .inl i → ρ[i]? ≠ some (.own k ds)) → AS O K σ ρ H xs rs as → AS O K σ ρ H (x :: xs) (r :: rs) (.v d :: as)
  | own {x : V} {xs : List V} {i : Nat} {rs : List (Nat ⊕ D)} {k k' : Nat} {ds : List D} {as : Sls} : ρ[i]? = some (.own k ds) → σ[i]? = some (some x) → 1 ≤ k' → (2 ≤ k → 2 ≤ k') → AS O K σ ρ H xs rs as → AS O K σ ρ H (x :: xs) (.inl i :: rs) (.own k' ds :: as)
section
variable {O : Addr → Prop} {K : Frag} {M : XM} {W : WX} {σ σ0 σ1 σ2 : St} {ρ ρ0 ρ1 ρ2 : Sls} {H H0 H1 H2 : Hp}
theorem as_of (E : EnvR O K σ H ρ) : ∀ {xs rs sl}, ARs O K σ ρ H xs rs → argSl ρ rs = some sl → AS O K σ ρ H xs rs sl
  | _, _, _, .nil, e => by cases e; exact .nil
  | _, _, _, .cons (r := .inr d) h t, e => by
    simp only [argSl, Option.map_eq_some_iff] at e
    obtain ⟨as, e1, rfl⟩ := e
    exact .val h (fun i k ds z => by cases z) (as_of E t e1)
  | _, _, _, .cons (x := x) (r := .inl i) h t, e => by
    simp only [argSl] at e
    have h : σ[i]? = some (some x) := h
    split at e
    · rename_i d as e1 e2
      cases e
      obtain ⟨y, g1, g2⟩ := E.val i d e1
      rw [h] at g1; cases g1
      exact .val g2 (fun j k ds z => by cases z; rw [e1]; exact fun z => by cases z) (as_of E t e2)
    · rename_i k ds as e1 e2
      cases e
      refine .own e1 h ?_ (fun hk => ?_) (as_of E t e2)
      · split <;> omega
      · rw [if_neg (fun z => by have := Nat.le_of_ble_eq_true z; omega)]; omega
    · cases e
theorem AS.len : ∀ {xs rs sl}, AS O K σ ρ H xs rs sl → sl.length = xs.length ∧ rs.length = xs.length
  | _, _, _, .nil => ⟨rfl, rfl⟩
  | _, _, _, .val _ _ t => by simp [t.len.1, t.len.2]
  | _, _, _, .own _ _ _ _ t => by simp [t.len.1, t.len.2]
theorem AS.getV : ∀ {xs rs sl} {n : Nat} {d : D}, AS O K σ ρ H xs rs sl → sl[n]? = some (.v d) → ∃ x, xs[n]? = some x ∧ Rep (Ow O σ ρ) K H x d
  | _, _, _, n, d, .nil, e => by simp at e
  | _, _, _, 0, d, .val h _ t, e => by simp at e; subst e; exact ⟨_, rfl, h⟩
  | _, _, _, n + 1, d, .val h _ t, e => by simpa using t.getV (n := n) (by simpa using e)
  | _, _, _, 0, d, .own _ _ _ _ t, e => by simp at e
  | _, _, _, n + 1, d, .own _ _ _ _ t, e => by simpa using t.getV (n := n) (by simpa using e)
theorem AS.getO : ∀ {xs rs sl} {n k' : Nat} {ds : List D}, AS O K σ ρ H xs rs sl → sl[n]? = some (.own k' ds) → ∃ i k x, rs[n]? = some (.inl i) ∧ ρ[i]? = some (.own k ds) ∧ σ[i]? = some (some x) ∧ xs[n]? = some x ∧ 1 ≤ k' ∧ (2 ≤ k → 2 ≤ k')
  | _, _, _, n, _, ds, .nil, e => by simp at e
  | _, _, _, 0, _, ds, .val h _ t, e => by simp at e
  | _, _, _, n + 1, _, ds, .val h _ t, e => by simpa using t.getO (n := n) (by simpa using e)
  | _, _, _, 0, _, ds, .own a b c d t, e => by simp at e; obtain ⟨rfl, rfl⟩ := e; exact ⟨_, _, _, rfl, a, b, rfl, c, d⟩
  | _, _, _, n + 1, _, ds, .own _ _ _ _ t, e => by simpa using t.getO (n := n) (by simpa using e)
theorem AS.getL : ∀ {xs rs sl} {n i k : Nat} {ds : List D}, AS O K σ ρ H xs rs sl → rs[n]? = some (.inl i) → ρ[i]? = some (.own k ds) → ∃ k', sl[n]? = some (.own k' ds)
  | _, _, _, n, _, _, ds, .nil, e, _ => by simp at e
  | _, _, _, 0, _, _, ds, .val h g t, e, e2 => by simp at e; exact absurd e2 (g _ _ _ e)
  | _, _, _, n + 1, _, _, ds, .val h _ t, e, e2 => by simpa using t.getL (n := n) (by simpa using e) e2
  | _, _, _, 0, _, _, ds, .own a b c d t, e, e2 => by simp at e; subst e; rw [a] at e2; cases e2; exact ⟨_, rfl⟩
  | _, _, _, n + 1, _, _, ds, .own _ _ _ _ t, e, e2 => by simpa using t.getL (n := n) (by simpa using e) e2
theorem ownLate_mem : ∀ {rs : List (Nat ⊕ D)} {n i k : Nat} {ds : List D}, rs[n]? = some (.inl i) → ρ[i]? = some (.own k ds) → i ∈ ownLate ρ rs
  | [], n, _, _, _, e, _ => by simp at e
  | .inr d :: rs, 0, _, _, _, e, _ => by simp at e
  | .inr d :: rs, n + 1, _, _, _, e, h => by simp only [ownLate]; exact ownLate_mem (n := n) (by simpa using e) h
  | .inl j :: rs, 0, _, _, _, e, h => by simp at e; subst e; simp only [ownLate, h]; exact List.mem_cons_self
  | .inl j :: rs, n + 1, _, _, _, e, h => by
    have q := ownLate_mem (n := n) (rs := rs) (by simpa using e) h
    simp only [ownLate]
    split
    · exact List.mem_cons_of_mem _ q
    · exact q
theorem ownLate_uniq : ∀ {rs : List (Nat ⊕ D)} {n m i k : Nat} {ds : List D}, (ownLate ρ rs).Nodup → rs[n]? = some (.inl i) → rs[m]? = some (.inl i) → ρ[i]? = some (.own k ds) → n = m
  | [], n, m, _, _, _, _, e, _, _ => by simp at e
  | r :: rs, 0, 0, _, _, _, _, _, _, _ => rfl
  | r :: rs, 0, m + 1, i, k, ds, hn, e1, e2, h => by
    simp at e1 e2
    subst e1
    simp only [ownLate, h] at hn
    exact absurd (ownLate_mem e2 h) (List.nodup_cons.mp hn).1
  | r :: rs, n + 1, 0, i, k, ds, hn, e1, e2, h => by
    simp at e1 e2
    subst e2
    simp only [ownLate, h] at hn
    exact absurd (ownLate_mem e1 h) (List.nodup_cons.mp hn).1
  | r :: rs, n + 1, m + 1, i, k, ds, hn, e1, e2, h => by
    have hn' : (ownLate ρ rs).Nodup := by
      cases r with
      | inr d => exact hn
      | inl j =>
        simp only [ownLate] at hn
        split at hn
        · exact (List.nodup_cons.mp hn).2
        · exact hn
    exact congrArg (· + 1) (ownLate_uniq (n := n) (m := m) hn' (by simpa using e1) (by simpa using e2) h)
theorem back_len : ∀ (rs : List (Nat ⊕ D)) (sl : Sls), (backSl ρ rs sl).length = ρ.length
  | [], sl => by cases sl <;> rfl
  | .inr d :: rs, [] => rfl
  | .inl d :: rs, [] => rfl
  | .inr d :: rs, s :: sl => by simp only [backSl]; exact back_len rs sl
  | .inl i :: rs, s :: sl => by
    simp only [backSl]
    split
    · rw [List.length_set]; exact back_len rs sl
    · exact back_len rs sl
/-- the slots behind the call -/
theorem back_get : ∀ {rs : List (Nat ⊕ D)} {sl : Sls} {i : Nat} {s : Slot}, (backSl ρ rs sl)[i]? = some s →
    (∃ (n k k' : Nat) (ds ds' : List D), rs[n]? = some (.inl i) ∧ ρ[i]? = some (.own k ds) ∧ sl[n]? = some (.own k' ds') ∧ s = .own k ds') ∨ (ρ[i]? = some s)
  | [], sl, i, s, e => by cases sl <;> exact .inr e
  | .inr d :: rs, [], i, s, e => .inr e
  | .inl d :: rs, [], i, s, e => .inr e
  | .inr d :: rs, t :: sl, i, s, e => by
    simp only [backSl] at e
    rcases back_get e with ⟨n, k, k', ds, ds', h1, h2, h3, h4⟩ | h
    · exact .inl ⟨n + 1, k, k', ds, ds', by simpa using h1, h2, by simpa using h3, h4⟩
    · exact .inr h
  | .inl j :: rs, t :: sl, i, s, e => by
    simp only [backSl] at e
    split at e
    · rename_i k ds k' ds' ej
      rcases get_set e with ⟨z1, z2⟩ | ⟨_, z⟩
      · subst z1
        exact .inl ⟨0, k, k', _, ds', rfl, ej, rfl, z2⟩
      · rcases back_get z with ⟨n, k, k', ds, ds', h1, h2, h3, h4⟩ | h
        · exact .inl ⟨n + 1, k, k', ds, ds', by simpa using h1, h2, by simpa using h3, h4⟩
        · exact .inr h
    · rcases back_get e with ⟨n, k, k', ds, ds', h1, h2, h3, h4⟩ | h
      · exact .inl ⟨n + 1, k, k', ds, ds', by simpa using h1, h2, by simpa using h3, h4⟩
      · exact .inr h
theorem back_own : ∀ {rs : List (Nat ⊕ D)} {sl : Sls} {i n k k' : Nat} {ds ds' : List D}, (ownLate ρ rs).Nodup → rs[n]? = some (.inl i) → ρ[i]? = some (.own k ds) → sl[n]? = some (.own k' ds') → (backSl ρ rs sl)[i]? = some (.own k ds')
  | [], sl, i, n, _, _, _, _, _, e, _, _ => by simp at e
  | r :: rs, [], i, n, _, _, _, _, _, _, _, e => by simp at e
  | .inr d :: rs, t :: sl, i, 0, _, _, _, _, hn, e1, h, e2 => by simp at e1
  | .inr d :: rs, t :: sl, i, n + 1, _, _, _, _, hn, e1, h, e2 => by simp only [backSl]; exact back_own (n := n) hn (by simpa using e1) h (by simpa using e2)
  | .inl j :: rs, t :: sl, i, 0, k, k', ds, ds', hn, e1, h, e2 => by
    simp at e1 e2
    subst e1 e2
    simp only [backSl, h]
    exact List.getElem?_set_self (by rw [back_len]; exact (List.getElem?_eq_some_iff.mp h).1)
  | .inl j :: rs, t :: sl, i, n + 1, k, k', ds, ds', hn, e1, h, e2 => by
    have hn' : (ownLate ρ rs).Nodup := by
      simp only [ownLate] at hn
      split at hn
      · exact (List.nodup_cons.mp hn).2
      · exact hn
    have q := back_own (n := n) hn' (by simpa using e1) h (by simpa using e2)
    simp only [backSl]
    split
    · rename_i k2 ds2 k3 ds3 ej
      have ji : j ≠ i := fun z => by
        subst z
        simp only [ownLate, h] at hn
        exact (List.nodup_cons.mp hn).1 (ownLate_mem (n := n) (by simpa using e1) h)
      rw [List.getElem?_set_ne ji]; exact q
    · exact q
/-- the callee's world is a part of the caller's -/
theorem call_back {O' : Addr → Prop} {vs : List V} {rs : List (Nat ⊕ D)} {sl sl' : Sls} (E : EnvR O K σ H ρ) (A : AS O K σ ρ H vs rs sl) (hn : (ownLate ρ rs).Nodup) (hO : ∀ a, O' a ↔ Ow O σ ρ a ∧ ¬ ∃ n, OwnAt (vs.map some) sl n a)
    (x : Ext (vs.map some) sl H (vs.map some) sl' H1) (E' : EnvR O' K (vs.map some) H1 sl') :
    Ext σ ρ H σ (backSl ρ rs sl') H1 ∧ (∀ (B B' : Addr → Prop), (∀ a, B a → B' a) → (∀ a, O' a → B' a) → (∀ a, B a → O a ∨ H a = none) → (∀ a, O a → B a) → EnvR B' K (vs.map some) H1 sl' → EnvR B K σ H1 (backSl ρ rs sl') ∧ ∀ a, Ow B σ (backSl ρ rs sl') a → Ow B' (vs.map some) sl' a) := by
  have oA : ∀ n a, OwnAt (vs.map some) sl n a → ∃ i, rs[n]? = some (.inl i) ∧ OwnAt σ ρ i a := fun n a ⟨⟨k, ds, e1⟩, e2⟩ => by
    obtain ⟨i, k2, y, g1, g2, g3, g4, _⟩ := A.getO e1
    rw [List.getElem?_map, g4] at e2
    cases e2
    exact ⟨i, g1, ⟨k2, ds, g2⟩, g3⟩
  have keepS : ∀ (n k : Nat) (ds : List D), sl[n]? = some (Slot.own k ds) → ∃ ds' : List D, sl'[n]? = some (Slot.own k ds') := fun n k ds e => by
    obtain ⟨i, k2, y, g1, g2, g3, g4, g5, _⟩ := A.getO e
    exact (x.bor n k ds g5 e).1
  -- the owned slots stay
  have oB : ∀ i a, OwnAt σ (backSl ρ rs sl') i a ↔ OwnAt σ ρ i a := fun i a => by
    constructor
    · rintro ⟨⟨k, ds, e1⟩, e2⟩
      rcases back_get e1 with ⟨n, k2, k3, ds2, ds3, h1, h2, h3, h4⟩ | h
      · exact ⟨⟨k2, ds2, h2⟩, e2⟩
      · exact ⟨⟨k, ds, h⟩, e2⟩
    · rintro ⟨⟨k, ds, e1⟩, e2⟩
      cases q : (backSl ρ rs sl')[i]? with
      | none =>
        have z := List.getElem?_eq_none_iff.mp q
        rw [back_len] at z
        have := (List.getElem?_eq_some_iff.mp e1).1
        omega
      | some s =>
        rcases back_get q with ⟨n, k2, k3, ds2, ds3, h1, h2, h3, h4⟩ | h
        · subst h4; exact ⟨⟨_, _, q⟩, e2⟩
        · rw [e1] at h; cases h; exact ⟨⟨_, _, q⟩, e2⟩
  have X : Ext σ ρ H σ (backSl ρ rs sl') H1 := by
    refine ⟨fun a n no => x.keep a n fun i z => ?_, fun i a z => .inl ⟨i, (oB i a).mp z⟩, x.trk, fun i k ds hk e => ?_, fun i k ds hk e => ?_⟩
    · obtain ⟨j, _, q⟩ := oA i a z
      exact no j q
    · refine ⟨?_, rfl⟩
      cases q : (backSl ρ rs sl')[i]? with
      | none =>
        have z := List.getElem?_eq_none_iff.mp q
        rw [back_len] at z
        have := (List.getElem?_eq_some_iff.mp e).1
        omega
      | some s =>
        rcases back_get q with ⟨n, k2, k3, ds2, ds3, h1, h2, h3, h4⟩ | h
        · rw [e] at h2; cases h2
          obtain ⟨k4, h5⟩ := A.getL h1 e
          obtain ⟨i2, k5, y, g1, g2, g3, g4, g5, g6⟩ := A.getO h5
          rw [h1] at g1; cases g1
          rw [e] at g2; cases g2
          obtain ⟨z1, _⟩ := x.lck n k4 _ (g6 hk) h5
          rw [h3] at z1; cases z1
          rw [h4]
        · rw [e] at h; cases h; rfl
    · refine ⟨?_, rfl⟩
      cases q : (backSl ρ rs sl')[i]? with
      | none =>
        have z := List.getElem?_eq_none_iff.mp q
        rw [back_len] at z
        have := (List.getElem?_eq_some_iff.mp e).1
        omega
      | some s =>
        rcases back_get q with ⟨n, k2, k3, ds2, ds3, h1, h2, h3, h4⟩ | h
        · rw [e] at h2; cases h2
          exact ⟨ds3, by rw [h4]⟩
        · rw [e] at h; cases h; exact ⟨ds, rfl⟩
  refine ⟨X, fun B B' hBB hOB hBn hOB2 E2 => ?_⟩
  have sub : ∀ a, Ow B σ (backSl ρ rs sl') a → Ow B' (vs.map some) sl' a := fun a z => by
    rcases z with z | ⟨i, z⟩
    · exact .inl (hBB a z)
    · have z' := (oB i a).mp z
      by_cases q : ∃ n, OwnAt (vs.map some) sl n a
      · obtain ⟨n, ⟨k, ds, e1⟩, e2⟩ := q
        obtain ⟨ds', e3⟩ := keepS n k ds e1
        exact .inr ⟨n, ⟨k, ds', e3⟩, e2⟩
      · exact .inl (hOB a ((hO a).mpr ⟨.inr ⟨i, z'⟩, q⟩))
  refine ⟨⟨by rw [back_len]; exact E.len, fun i d e => ?_, fun i k ds e => ?_, fun i l a z1 z2 => E.inj i l a ((oB i a).mp z1) ((oB l a).mp z2), fun a z => E2.out a (hBB a z)⟩, sub⟩
  · rcases back_get e with ⟨n, k2, k3, ds2, ds3, h1, h2, h3, h4⟩ | h
    · cases h4
    · obtain ⟨y, g1, g2⟩ := E.val i d h
      refine ⟨y, g1, Rep.keep (fun a n z => ?_) _ _ g2⟩
      obtain ⟨q1, q2⟩ := X.kp (O := O) a n z
      refine ⟨fun w => ?_, q2⟩
      rcases w with w | w
      · rcases hBn a w with w | w
        · exact n (.inl w)
        · exact z w
      · exact q1 (.inr w)
  · rcases back_get e with ⟨n, k2, k3, ds2, ds3, h1, h2, h3, h4⟩ | h
    · cases h4
      obtain ⟨a, xs, g1, g2, g3, g4⟩ := E2.own n k3 _ h3
      obtain ⟨k4, h5⟩ := A.getL h1 h2
      obtain ⟨i2, k5, y, f1, f2, f3, f4, _⟩ := A.getO h5
      rw [h1] at f1; cases f1
      rw [List.getElem?_map, f4] at g1
      cases g1
      exact ⟨a, xs, f3, g2, Reps.keep (Keep.less sub) _ _ g3, fun w => g4 (hBB a w)⟩
    · by_cases q : ∃ n, OwnAt (vs.map some) sl n (match σ[i]? with | some (some (.ref a)) => a | _ => 0) ∧ rs[n]? = some (.inl i)
      · obtain ⟨n, ⟨⟨k2, ds2, e1⟩, e2⟩, h1⟩ := q
        obtain ⟨ds', e3⟩ := keepS n k2 ds2 e1
        have z := back_own hn h1 h e3
        rw [e] at z; cases z
        obtain ⟨a, xs, g1, g2, g3, g4⟩ := E2.own n k2 ds e3
        obtain ⟨i2, k5, y, f1, f2, f3, f4, _⟩ := A.getO e1
        rw [h1] at f1; cases f1
        rw [List.getElem?_map, f4] at g1
        cases g1
        exact ⟨a, xs, f3, g2, Reps.keep (Keep.less sub) _ _ g3, fun w => g4 (hBB a w)⟩
      · obtain ⟨a, xs, g1, g2, g3, g4⟩ := E.own i k ds h
        have no : ∀ n, ¬ OwnAt (vs.map some) sl n a := fun n z => by
          obtain ⟨j, f1, f2⟩ := oA n a z
          have ji : j = i := E.inj j i a f2 ⟨⟨k, ds, h⟩, g1⟩
          subst ji
          exact q ⟨n, by rw [g1]; exact z, f1⟩
        have hk := x.keep a (by rw [g2]; exact fun z => nomatch z) no
        refine ⟨a, xs, g1, hk.trans g2, Reps.keep (fun b n z => ?_) _ _ g3, fun w => ?_⟩
        · obtain ⟨q1, q2⟩ := X.kp (O := O) b n z
          refine ⟨fun w => ?_, q2⟩
          rcases w with w | w
          · rcases hBn b w with w | w
            · exact n (.inl w)
            · exact z w
          · exact q1 (.inr w)
        · rcases hBn a w with w | w
          · exact g4 w
          · rw [g2] at w; cases w
end
end L3

/-! E13: a call, a def. -/
namespace L3
open PySem L2
section
variable {O : Addr → Prop} {K : Frag} {M : XM} {W : WX} {σ σ0 σ1 σ2 : St} {ρ ρ0 ρ1 ρ2 : Sls} {H H0 H1 H2 : Hp}
theorem EAt.less {O' : Addr → Prop} {e : Exc} {cls : Value} {d : Option Addr} (h : ∀ a, O' a → O a) (x : EAt O K M H e cls d) : EAt O' K M H e cls d := by
  obtain ⟨C, xs, h1, h2, h3, h4, h5⟩ := x
  refine ⟨C, xs, h1, h2, h3, Reps.keep (Keep.less h) _ _ h4, ?_⟩
  rcases h5 with h5 | ⟨da, g1, g2, g3⟩
  · exact .inl h5
  · exact .inr ⟨da, g1, fun z => g2 (h _ z), g3⟩
theorem callR {fe : Ev R} {rs : List (Nat ⊕ D)} {vs : List V} {Q : VK} (E1 : EnvR O K σ H1 ρ1) (px : Ext σ ρ H σ ρ1 H1) (pr : ARs O K σ ρ1 H1 vs rs) (h1 : Res K M W O σ ρ H (fun r ρ' => ∀ x H', Post O K σ ρ H r ρ' x H' → Q x H') (evCallR fe rs ρ1)) :
    spF K M fe vs H1 Q (fun cls d H' => W cls d σ H') := by
  unfold evCallR at h1
  split at h1
  rotate_left
  · exact h1.elim
  rename_i sl e1 e2
  have hn : (ownLate ρ1 rs).Nodup := of_decide_eq_true e2
  have A := as_of E1 pr e1
  have oA : ∀ n a, OwnAt (vs.map some) sl n a → ∃ i, rs[n]? = some (.inl i) ∧ OwnAt σ ρ1 i a := fun n a ⟨⟨k, ds, e1⟩, e2⟩ => by
    obtain ⟨i, k2, y, g1, g2, g3, g4, _⟩ := A.getO e1
    rw [List.getElem?_map, g4] at e2
    cases e2
    exact ⟨i, g1, ⟨k2, ds, g2⟩, g3⟩
  let O' : Addr → Prop := fun a => Ow O σ ρ1 a ∧ ¬ ∃ n, OwnAt (vs.map some) sl n a
  have less : ∀ a, Ow O' (vs.map some) sl a → Ow O σ ρ1 a := fun a z => by
    rcases z with z | ⟨n, z⟩
    · exact z.1
    · obtain ⟨i, _, q⟩ := oA n a z
      exact .inr ⟨i, q⟩
  have hOO : ∀ a, O a → O' a := fun a z => ⟨.inl z, fun ⟨n, q⟩ => by
    obtain ⟨i, _, ⟨k, ds, f1⟩, f2⟩ := oA n a q
    obtain ⟨b, xs, g1, g2, g3, g4⟩ := E1.own i k ds f1
    rw [f2] at g1; cases g1
    exact g4 z⟩
  have E2 : EnvR O' K (vs.map some) H1 sl := by
    refine ⟨by rw [List.length_map]; exact A.len.1.symm, fun n d e => ?_, fun n k ds e => ?_, fun n m a z1 z2 => ?_, fun a z => E1.owNe z.1⟩
    · obtain ⟨x, g1, g2⟩ := A.getV e
      exact ⟨x, by rw [List.getElem?_map, g1]; rfl, Rep.keep (Keep.less less) _ _ g2⟩
    · obtain ⟨i, k2, y, g1, g2, g3, g4, _⟩ := A.getO e
      obtain ⟨a, xs, q1, q2, q3, q4⟩ := E1.own i k2 ds g2
      rw [g3] at q1; cases q1
      exact ⟨a, xs, by rw [List.getElem?_map, g4]; rfl, q2, Reps.keep (Keep.less less) _ _ q3, fun z => z.2 ⟨n, ⟨k, ds, e⟩, by rw [List.getElem?_map, g4]; rfl⟩⟩
    · obtain ⟨i, f1, f2⟩ := oA n a z1
      obtain ⟨j, f3, f4⟩ := oA m a z2
      have ij := E1.inj i j a f2 f4
      subst ij
      obtain ⟨⟨k, ds, f5⟩, _⟩ := f2
      exact ownLate_uniq hn f1 f3 f5
  have ret : ∀ {sl' : Sls} {H' : Hp}, Ext (vs.map some) sl H1 (vs.map some) sl' H' → EnvR O' K (vs.map some) H' sl' → Ext σ ρ H σ (backSl ρ1 rs sl') H' ∧ EnvR O K σ H' (backSl ρ1 rs sl') ∧ (∀ a, Ow O σ (backSl ρ1 rs sl') a → Ow O' (vs.map some) sl' a) ∧
      ∀ q, H1 q = none → EnvR (fun a => O' a ∨ a = q) K (vs.map some) H' sl' → EnvR (fun a => O a ∨ a = q) K σ H' (backSl ρ1 rs sl') ∧ ∀ a, Ow (fun a => O a ∨ a = q) σ (backSl ρ1 rs sl') a → Ow (fun a => O' a ∨ a = q) (vs.map some) sl' a := fun {sl' H'} x E' => by
    obtain ⟨X, F⟩ := call_back E1 A hn (O' := O') (fun a => .rfl) x E'
    obtain ⟨F1, F2⟩ := F O O' hOO (fun _ z => z) (fun _ z => .inl z) (fun _ z => z) E'
    refine ⟨px.trans X, F1, F2, fun q hq E3 => F _ _ (fun a z => z.elim (fun z => .inl (hOO a z)) .inr) (fun _ z => .inl z) (fun a z => z.elim .inl fun e => .inr (by rw [e]; exact hq)) (fun _ z => .inl z) E3⟩
  refine ⟨O', sl, E2, ?_⟩
  revert h1
  generalize fe sl = m
  intro h1
  match m, h1 with
  | some (.ok r sl'), h1 =>
    intro x H' q
    obtain ⟨r1, r2, r3, r4⟩ := ret q.ext q.env
    refine h1 x H' ⟨r1, r2, Rep.keep (Keep.less r3) _ _ q.rep, fun hf => ?_⟩
    obtain ⟨a, xs, ds, g1, g2, g3, g4, g5, g6⟩ := q.fr hf
    obtain ⟨r5, r6⟩ := r4 a g3 g6
    refine ⟨a, xs, ds, g1, g2, ?_, g4, Reps.keep (Keep.less r6) _ _ g5, r5⟩
    by_cases n : H a = none
    · exact n
    · exact absurd g3 (px.trk a n)
  | some (.ex e sl'), h1 =>
    intro cls d H' q
    obtain ⟨r1, r2, r3, r4⟩ := ret q.ext q.env
    exact h1 cls d H' ⟨r1, r2, q.exc.less r3⟩

theorem call_ok {fe : Ev R} {as : List SA} {Q : VK} (h : LX K M W (evCall fe as) σ H Q) : LAs K M W as σ H fun vs H1 => spF K M fe vs H1 Q (fun cls d H' => W cls d σ H') := by
  obtain ⟨O, ρ, E, h⟩ := h
  refine args_ok as ρ H _ E ?_
  exact (Res.bind (f := evAs as) h).mono fun rs ρ1 h1 vs H1 p => callR p.env p.ext p.reps h1
theorem LA1.mono {s : SA} {Q Q' : VK} (k : ∀ x H', Q x H' → Q' x H') (h : LA1 K M W s σ H Q) : LA1 K M W s σ H Q' := by
  cases s with
  | late i => obtain ⟨v, e, h⟩ := h; exact ⟨v, e, k _ _ h⟩
  | e f =>
    obtain ⟨O, ρ, E, h⟩ := h
    exact ⟨O, ρ, E, h.mono fun r ρ' q x H' p => k _ _ (q x H' p)⟩
theorem LAs.mono {as : List SA} : ∀ {σ : St} {H : Hp} {Q Q' : List V → Hp → Prop}, (∀ x H', Q x H' → Q' x H') → LAs K M W as σ H Q → LAs K M W as σ H Q' := by
  induction as with
  | nil => intro σ H Q Q' k h; exact k _ _ h
  | cons a as ih => intro σ H Q Q' k h; exact LA1.mono (fun x H' q => ih (fun xs H2 q2 => k _ _ q2) q) h
theorem LAs.app {as bs : List SA} : ∀ {σ : St} {H : Hp} {Q : List V → Hp → Prop}, LAs K M W (as ++ bs) σ H Q → LAs K M W as σ H fun vs H1 => LAs K M W bs σ H1 fun zs H2 => Q (vs ++ zs) H2 := by
  induction as with
  | nil => intro σ H Q h; exact h
  | cons a as ih => intro σ H Q h; exact LA1.mono (fun x H' q => ih q) h
theorem ARs.perm {xs : List V} {rs : List (Nat ⊕ D)} (h : ARs O K σ ρ H xs rs) : ∀ {is : List Nat} {rs' : List (Nat ⊕ D)}, permL rs is = some rs' → ∃ xs', permL xs is = some xs' ∧ ARs O K σ ρ H xs' rs'
  | [], _, e => by cases e; exact ⟨[], rfl, .nil⟩
  | i :: is, _, e => by
    simp only [permL] at e
    split at e
    · rename_i r ys e1 e2
      cases e
      obtain ⟨xs', h1, h2⟩ := ARs.perm h e2
      have get : ∀ {xs : List V} {rs : List (Nat ⊕ D)} {i : Nat} {r : Nat ⊕ D}, ARs O K σ ρ H xs rs → rs[i]? = some r → ∃ x, xs[i]? = some x ∧ AR O K σ ρ H x r := by
        intro xs rs
        induction rs generalizing xs with
        | nil => intro i r h e; simp at e
        | cons q rs ih =>
          intro i r h e
          cases h with
          | cons a b =>
            cases i with
            | zero => simp at e; subst e; exact ⟨_, rfl, a⟩
            | succ i => simpa using ih (i := i) b (by simpa using e)
      obtain ⟨x, g1, g2⟩ := get h e1
      exact ⟨x :: xs', by simp [permL, g1, h1], .cons g2 h2⟩
    · cases e
theorem callK_ok {fe : Ev R} {as : List SA} {perm : List Nat} {Q : VK} (h : LX K M W (evCallK fe as perm) σ H Q) : LAs K M W as σ H fun vs H1 => ∃ vs', permL vs perm = some vs' ∧ spF K M fe vs' H1 Q (fun cls d H' => W cls d σ H') := by
  obtain ⟨O, ρ, E, h⟩ := h
  refine args_ok as ρ H _ E ?_
  refine (Res.bind (f := evAs as) h).mono fun rs ρ1 h1 vs H1 p => ?_
  cases e : permL rs perm with
  | none => simp only [e] at h1; exact h1.elim
  | some rs' =>
    simp only [e] at h1
    obtain ⟨vs', h2, h3⟩ := p.reps.perm e
    exact ⟨vs', h2, callR p.env p.ext h3 h1⟩

/-! a def -/
/-- the parameters' slots as they are handed back: those that were lent -/
def backA : Sls → Sls → Sls
  | .own k ds :: as, s :: ρ => s :: backA as ρ
  | a :: as, _ :: ρ => a :: backA as ρ
  | as, [] => as
  | [], _ => []
/-- no slot holds a list that was made there -/
def noMine : Sls → Bool
  | [] => true
  | .own k _ :: as => Nat.blt 0 k && noMine as
  | _ :: as => noMine as
def defEv (n m : Nat) (body : EvS) : Ev R := fun as => match Nat.beq as.length n && noMine as with
  | false => none
  | true => match body (as ++ List.replicate m .unk) with
    | some (.nx ρ') => some (.ok ⟨.non, false⟩ (backA as ρ'))
    | some (.rt r ρ') => some (.ok r (backA as ρ'))
    | some (.ro i ρ') => match ρ'[i]? with
      | some (.own 0 ds) => some (.ok ⟨.lst ds, true⟩ (backA as ρ'))
      | _ => none
    | some (.ex e ρ') => some (.ex e (backA as ρ'))
    | _ => none
theorem noMine_of : ∀ {as : Sls} {i k : Nat} {ds : List D}, noMine as = true → as[i]? = some (.own k ds) → 1 ≤ k
  | [], _, _, _, _, e => by simp at e
  | .own k ds :: as, 0, _, _, h, e => by
    simp at e
    obtain ⟨rfl, rfl⟩ := e
    simp only [noMine, Bool.and_eq_true] at h
    exact Nat.le_of_ble_eq_true h.1
  | .own k ds :: as, i + 1, _, _, h, e => by
    simp only [noMine, Bool.and_eq_true] at h
    exact noMine_of (i := i) h.2 (by simpa using e)
  | .unk :: as, 0, _, _, h, e => by simp at e
  | .unk :: as, i + 1, _, _, h, e => noMine_of (i := i) (as := as) h (by simpa using e)
  | .v d :: as, 0, _, _, h, e => by simp at e
  | .v d :: as, i + 1, _, _, h, e => noMine_of (i := i) (as := as) h (by simpa using e)
theorem backA_len : ∀ (as ρ : Sls), (backA as ρ).length = as.length
  | [], ρ => by cases ρ <;> rfl
  | a :: as, [] => by cases a <;> rfl
  | .own k ds :: as, s :: ρ => by simp [backA, backA_len as ρ]
  | .unk :: as, s :: ρ => by simp [backA, backA_len as ρ]
  | .v d :: as, s :: ρ => by simp [backA, backA_len as ρ]
theorem backA_get : ∀ {as ρ : Sls} {i : Nat} {s : Slot}, (backA as ρ)[i]? = some s → (∃ (k : Nat) (ds : List D), as[i]? = some (.own k ds) ∧ (ρ[i]? = some s ∨ (ρ[i]? = none ∧ as[i]? = some s))) ∨ (as[i]? = some s ∧ ∀ (k : Nat) (ds : List D), as[i]? ≠ some (.own k ds))
  | [], ρ, i, s, e => by cases ρ <;> simp [backA] at e
  | a :: as, [], i, s, e => by
    have e : (a :: as)[i]? = some s := by cases a <;> exact e
    cases s with
    | own k ds => exact .inl ⟨k, ds, e, .inr ⟨by simp, e⟩⟩
    | unk => exact .inr ⟨e, fun k ds z => by rw [e] at z; cases z⟩
    | v d => exact .inr ⟨e, fun k ds z => by rw [e] at z; cases z⟩
  | .own k ds :: as, t :: ρ, 0, s, e => by simp [backA] at e; subst e; exact .inl ⟨k, ds, rfl, .inl rfl⟩
  | .own k ds :: as, t :: ρ, i + 1, s, e => by simpa using backA_get (as := as) (ρ := ρ) (i := i) (by simpa [backA] using e)
  | .unk :: as, t :: ρ, 0, s, e => by simp [backA] at e; subst e; exact .inr ⟨rfl, fun k ds z => by simp at z⟩
  | .unk :: as, t :: ρ, i + 1, s, e => by simpa using backA_get (as := as) (ρ := ρ) (i := i) (by simpa [backA] using e)
  | .v d :: as, t :: ρ, 0, s, e => by simp [backA] at e; subst e; exact .inr ⟨rfl, fun k ds z => by simp at z⟩
  | .v d :: as, t :: ρ, i + 1, s, e => by simpa using backA_get (as := as) (ρ := ρ) (i := i) (by simpa [backA] using e)
theorem app_unk {as : Sls} {m i : Nat} {s : Slot} (h : (as ++ List.replicate m .unk)[i]? = some s) : as[i]? = some s ∨ s = .unk := by
  by_cases hi : i < as.length
  · rw [List.getElem?_append_left hi] at h; exact .inl h
  · rw [List.getElem?_append_right (by omega), List.getElem?_replicate] at h
    split at h
    · cases h; exact .inr rfl
    · cases h
/-- the body's world and the arguments' -/
theorem start_own {vs : List V} {N : List Str} {as : Sls} {m i : Nat} {a : Addr} (hl : as.length = vs.length) : OwnAt (start N vs) (as ++ List.replicate m .unk) i a ↔ OwnAt (vs.map some) as i a := by
  constructor
  · rintro ⟨⟨k, ds, e1⟩, e2⟩
    rcases app_unk e1 with e1 | e1
    · have hi := (List.getElem?_eq_some_iff.mp e1).1
      unfold L2.start at e2
      rw [List.getElem?_append_left (by rw [List.length_map]; omega)] at e2
      exact ⟨⟨k, ds, e1⟩, e2⟩
    · cases e1
  · rintro ⟨⟨k, ds, e1⟩, e2⟩
    have hi := (List.getElem?_eq_some_iff.mp e1).1
    refine ⟨⟨k, ds, by rw [List.getElem?_append_left hi]; exact e1⟩, ?_⟩
    unfold L2.start
    rw [List.getElem?_append_left (by rw [List.length_map]; omega)]
    exact e2
theorem start_ow {vs : List V} {N : List Str} {as : Sls} {m : Nat} (hl : as.length = vs.length) : Ow O (start N vs) (as ++ List.replicate m .unk) = Ow O (vs.map some) as := by
  funext a
  unfold Ow
  simp only [start_own hl]
theorem start_env {vs : List V} {N : List Str} {as : Sls} {m : Nat} (E : EnvR O K (vs.map some) H as) (hm : as.length + m = N.length) : EnvR O K (start N vs) H (as ++ List.replicate m .unk) := by
  have hl : as.length = vs.length := by have := E.len; rw [List.length_map] at this; exact this.symm
  have st : ∀ (i : Nat), i < as.length → (start N vs)[i]? = (vs.map some)[i]? := fun i hi => by
    unfold L2.start
    rw [List.getElem?_append_left (by rw [List.length_map]; omega)]
  refine ⟨?_, fun i d e => ?_, fun i k ds e => ?_, fun i j a z1 z2 => E.inj i j a ((start_own hl).mp z1) ((start_own hl).mp z2), E.out⟩
  · unfold L2.start
    simp only [List.length_append, List.length_map, List.length_replicate]
    omega
  · rcases app_unk e with e | e
    · rw [start_ow hl, st i (List.getElem?_eq_some_iff.mp e).1]
      exact E.val i d e
    · cases e
  · rcases app_unk e with e | e
    · rw [start_ow hl, st i (List.getElem?_eq_some_iff.mp e).1]
      exact E.own i k ds e
    · cases e
/-- at the body's end -/
theorem def_back {vs : List V} {N : List Str} {as : Sls} {m : Nat} {σ' : St} {ρ' : Sls} {H' : Hp} (E : EnvR O K (vs.map some) H as) (hno : noMine as = true) (x : Ext (start N vs) (as ++ List.replicate m .unk) H σ' ρ' H') (E' : EnvR O K σ' H' ρ') :
    Ext (vs.map some) as H (vs.map some) (backA as ρ') H' ∧ (∀ (B : Addr → Prop), (∀ a, B a → O a ∨ H a = none) → EnvR B K σ' H' ρ' → EnvR B K (vs.map some) H' (backA as ρ') ∧ ∀ a, Ow B (vs.map some) (backA as ρ') a → Ow B σ' ρ' a) := by
  have hl : as.length = vs.length := by have := E.len; rw [List.length_map] at this; exact this.symm
  have st : ∀ (i : Nat), i < as.length → (start N vs)[i]? = (vs.map some)[i]? := fun i hi => by
    unfold L2.start
    rw [List.getElem?_append_left (by rw [List.length_map]; omega)]
  -- a lent slot at the end
  have lent : ∀ (i k : Nat) (ds : List D), as[i]? = some (.own k ds) → (∃ ds' : List D, ρ'[i]? = some (Slot.own k ds')) ∧ σ'[i]? = (vs.map some)[i]? := fun i k ds e => by
    have hi := (List.getElem?_eq_some_iff.mp e).1
    obtain ⟨q1, q2⟩ := x.bor i k ds (noMine_of hno e) (by rw [List.getElem?_append_left hi]; exact e)
    exact ⟨q1, by rw [q2, st i hi]⟩
  have slot : ∀ (i k : Nat) (ds : List D), (backA as ρ')[i]? = some (.own k ds) → (∃ ds0 : List D, as[i]? = some (Slot.own k ds0)) ∧ ρ'[i]? = some (.own k ds) ∧ σ'[i]? = (vs.map some)[i]? := fun i k ds e => by
    rcases backA_get e with ⟨k2, ds2, h1, h2⟩ | ⟨h1, h2⟩
    · obtain ⟨⟨ds3, q1⟩, q2⟩ := lent i k2 ds2 h1
      rcases h2 with h2 | ⟨h2, h3⟩
      · rw [q1] at h2; cases h2
        exact ⟨⟨ds2, h1⟩, q1, q2⟩
      · rw [q1] at h2; cases h2
    · exact absurd h1 (h2 k ds)
  have own' : ∀ i a, OwnAt (vs.map some) (backA as ρ') i a → OwnAt σ' ρ' i a ∧ OwnAt (vs.map some) as i a := fun i a ⟨⟨k, ds, e1⟩, e2⟩ => by
    obtain ⟨⟨ds0, q1⟩, q2, q3⟩ := slot i k ds e1
    exact ⟨⟨⟨k, ds, q2⟩, q3.trans e2⟩, ⟨k, ds0, q1⟩, e2⟩
  have X : Ext (vs.map some) as H (vs.map some) (backA as ρ') H' := by
    refine ⟨fun a n no => x.keep a n fun i z => no i ((start_own hl).mp z), fun i a z => .inl ⟨i, (own' i a z).2⟩, x.trk, fun i k ds hk e => ⟨?_, rfl⟩, fun i k ds hk e => ⟨?_, rfl⟩⟩
    · have hi := (List.getElem?_eq_some_iff.mp e).1
      obtain ⟨q1, _⟩ := x.lck i k ds hk (by rw [List.getElem?_append_left hi]; exact e)
      cases q : (backA as ρ')[i]? with
      | none => have z := List.getElem?_eq_none_iff.mp q; rw [backA_len] at z; omega
      | some s =>
        rcases backA_get q with ⟨k2, ds2, h1, h2⟩ | ⟨h1, h2⟩
        · rcases h2 with h2 | ⟨h2, h3⟩
          · rw [← h2]; exact q1
          · rw [q1] at h2; cases h2
        · exact absurd e (h2 k ds)
    · have hi := (List.getElem?_eq_some_iff.mp e).1
      obtain ⟨⟨ds', q1⟩, _⟩ := lent i k ds e
      cases q : (backA as ρ')[i]? with
      | none => have z := List.getElem?_eq_none_iff.mp q; rw [backA_len] at z; omega
      | some s =>
        rcases backA_get q with ⟨k2, ds2, h1, h2⟩ | ⟨h1, h2⟩
        · rcases h2 with h2 | ⟨h2, h3⟩
          · exact ⟨ds', by rw [← h2]; exact q1⟩
          · rw [q1] at h2; cases h2
        · exact absurd e (h2 k ds)
  refine ⟨X, fun B hB E2 => ?_⟩
  have sub : ∀ a, Ow B (vs.map some) (backA as ρ') a → Ow B σ' ρ' a := fun a z => z.elim .inl fun ⟨i, z⟩ => .inr ⟨i, (own' i a z).1⟩
  refine ⟨⟨by rw [backA_len]; exact E.len, fun i d e => ?_, fun i k ds e => ?_, fun i j a z1 z2 => E.inj i j a (own' i a z1).2 (own' j a z2).2, E2.out⟩, sub⟩
  · have ea : as[i]? = some (.v d) := by
      rcases backA_get e with ⟨k2, ds2, h1, h2⟩ | ⟨h1, h2⟩
      · obtain ⟨⟨ds3, q1⟩, q2⟩ := lent i k2 ds2 h1
        rcases h2 with h2 | ⟨h2, h3⟩
        · rw [q1] at h2; cases h2
        · rw [q1] at h2; cases h2
      · exact h1
    obtain ⟨y, g1, g2⟩ := E.val i d ea
    refine ⟨y, g1, Rep.keep (fun a n z => ?_) _ _ g2⟩
    obtain ⟨q1, q2⟩ := X.kp (O := O) a n z
    refine ⟨fun w => ?_, q2⟩
    rcases w with w | w
    · rcases hB a w with w | w
      · exact n (.inl w)
      · exact z w
    · exact q1 (.inr w)
  · obtain ⟨⟨ds0, q1⟩, q2, q3⟩ := slot i k ds e
    obtain ⟨a, xs, g1, g2, g3, g4⟩ := E2.own i k ds q2
    exact ⟨a, xs, q3 ▸ g1, g2, Reps.keep (Keep.less sub) _ _ g3, g4⟩
/-- a def by its body -/
theorem def_ok {n m : Nat} {body : EvS} {vs : List V} {N : List Str} {Q : VK} {E : XK} (hN : n + m = N.length) (h : spF K M (defEv n m body) vs H Q E) : LS K M (fun cls d _ H' => E cls d H') body { nx := fun _ H' => Q .non H', rt := Q } (start N vs) H := by
  obtain ⟨O, as, E0, h⟩ := h
  unfold defEv at h
  split at h
  · exact h.elim
  rename_i hc
  rw [Bool.and_eq_true] at hc
  have hn := Nat.eq_of_beq_eq_true hc.1
  refine ⟨O, as ++ List.replicate m .unk, start_env E0 (by omega), ?_⟩
  revert h
  generalize body (as ++ List.replicate m .unk) = b
  intro h
  match b, h with
  | some (.nx ρ'), h =>
    intro σ' H' p
    obtain ⟨X, F⟩ := def_back E0 hc.2 p.ext p.env
    obtain ⟨F1, F2⟩ := F O (fun a z => .inl z) p.env
    exact h .non H' ⟨X, F1, .non, fun z => nomatch z⟩
  | some (.rt r ρ'), h =>
    intro x σ' H' p
    obtain ⟨X, F⟩ := def_back E0 hc.2 p.ext p.env
    obtain ⟨F1, F2⟩ := F O (fun a z => .inl z) p.env
    refine h x H' ⟨X, F1, Rep.keep (Keep.less F2) _ _ p.rep, fun hf => ?_⟩
    obtain ⟨a, xs, ds, g1, g2, g3, g4, g5, g6⟩ := p.fr hf
    obtain ⟨F3, F4⟩ := F _ (fun b z => z.elim .inl fun e => .inr (by rw [e]; exact g3)) g6
    exact ⟨a, xs, ds, g1, g2, g3, g4, Reps.keep (Keep.less F4) _ _ g5, F3⟩
  | some (.ro i ρ'), h =>
    intro x σ' H' p hx ho
    obtain ⟨ds, ho⟩ := ho
    simp only [ho] at h
    obtain ⟨X, F⟩ := def_back E0 hc.2 p.ext p.env
    obtain ⟨F1, F2⟩ := F O (fun a z => .inl z) p.env
    obtain ⟨a, xs, g1, g2, g3, g4⟩ := p.env.own i 0 ds ho
    rw [hx] at g1; cases g1
    have hl : as.length = vs.length := by have := E0.len; rw [List.length_map] at this; exact this.symm
    -- the list is none of the arguments
    have na : ∀ j, ¬ OwnAt (vs.map some) (backA as ρ') j a := fun j z => by
      have z1 : OwnAt σ' ρ' j a := by
        rcases F2 a (.inr ⟨j, z⟩) with w | ⟨l, w⟩
        · exact absurd w g4
        · obtain ⟨⟨k, es, e1⟩, e2⟩ := z
          obtain ⟨b, ys, q1, q2, q3, q4⟩ := F1.own j k es e1
          rw [e2] at q1; cases q1
          rcases backA_get e1 with ⟨k2, ds2, h1, h2⟩ | ⟨h1, h2⟩
          · have hi := (List.getElem?_eq_some_iff.mp h1).1
            obtain ⟨⟨es', y1⟩, y2⟩ := p.ext.bor j k2 ds2 (noMine_of hc.2 h1) (by rw [List.getElem?_append_left hi]; exact h1)
            refine ⟨⟨k2, es', y1⟩, ?_⟩
            rw [y2]
            unfold L2.start
            rw [List.getElem?_append_left (by rw [List.length_map]; omega)]
            exact e2
          · exact absurd h1 (h2 k es)
      have ji : j = i := p.env.inj j i a z1 ⟨⟨0, ds, ho⟩, hx⟩
      subst ji
      obtain ⟨⟨k, es, e1⟩, e2⟩ := z
      rcases backA_get e1 with ⟨k2, ds2, h1, h2⟩ | ⟨h1, h2⟩
      · have hi := (List.getElem?_eq_some_iff.mp h1).1
        have k1 := noMine_of hc.2 h1
        obtain ⟨⟨es', y1⟩, y2⟩ := p.ext.bor j k2 ds2 k1 (by rw [List.getElem?_append_left hi]; exact h1)
        rw [ho] at y1; cases y1; omega
      · exact absurd h1 (h2 k es)
    have fresh : H a = none := by
      rcases p.ext.grow i a ⟨⟨0, ds, ho⟩, hx⟩ with ⟨j, w⟩ | w
      · have w' := (start_own hl).mp w
        obtain ⟨⟨k, es, e1⟩, e2⟩ := w'
        have hi := (List.getElem?_eq_some_iff.mp e1).1
        have k1 := noMine_of hc.2 e1
        obtain ⟨⟨es', y1⟩, y2⟩ := p.ext.bor j k es k1 (by rw [List.getElem?_append_left hi]; exact e1)
        have z1 : OwnAt σ' ρ' j a := ⟨⟨k, es', y1⟩, by rw [y2]; exact w.2⟩
        have ji := p.env.inj j i a z1 ⟨⟨0, ds, ho⟩, hx⟩
        subst ji
        rw [ho] at y1; cases y1; omega
      · exact w
    have sub : ∀ b, Ow (fun c => O c ∨ c = a) (vs.map some) (backA as ρ') b → Ow O σ' ρ' b := fun b z => by
      rcases z with (z | z) | z
      · exact .inl z
      · rw [z]; exact .inr ⟨i, ⟨0, ds, ho⟩, hx⟩
      · exact F2 b (.inr z)
    have E3 : EnvR (fun c => O c ∨ c = a) K (vs.map some) H' (backA as ρ') := by
      refine ⟨F1.len, fun j d e => ?_, fun j k es e => ?_, F1.inj, fun b z => ?_⟩
      · have ea : as[j]? = some (.v d) := by
          rcases backA_get e with ⟨k2, ds2, h1, h2⟩ | ⟨h1, h2⟩
          · have hi := (List.getElem?_eq_some_iff.mp h1).1
            obtain ⟨⟨es', y1⟩, y2⟩ := p.ext.bor j k2 ds2 (noMine_of hc.2 h1) (by rw [List.getElem?_append_left hi]; exact h1)
            rcases h2 with h2 | ⟨h2, h3⟩
            · rw [y1] at h2; cases h2
            · rw [y1] at h2; cases h2
          · exact h1
        obtain ⟨y, q1, q2⟩ := E0.val j d ea
        refine ⟨y, q1, Rep.keep (fun b n z => ?_) _ _ q2⟩
        obtain ⟨w1, w2⟩ := X.kp (O := O) b n z
        refine ⟨fun w => ?_, w2⟩
        rcases w with (w | w) | w
        · exact w1 (.inl w)
        · exact z (by rw [w]; exact fresh)
        · exact w1 (.inr w)
      · obtain ⟨b, ys, q1, q2, q3, q4⟩ := F1.own j k es e
        have qa : as[j]? ≠ none := fun z => by
          have z1 := (List.getElem?_eq_some_iff.mp e).1
          rw [backA_len] at z1
          have := List.getElem?_eq_none_iff.mp z
          omega
        rcases backA_get e with ⟨k2, ds2, h1, h2⟩ | ⟨h1, h2⟩
        · have hi := (List.getElem?_eq_some_iff.mp h1).1
          obtain ⟨⟨es', y1⟩, y2⟩ := p.ext.bor j k2 ds2 (noMine_of hc.2 h1) (by rw [List.getElem?_append_left hi]; exact h1)
          rcases h2 with h2 | ⟨h2, h3⟩
          · rw [y1] at h2; cases h2
            obtain ⟨c, zs, f1, f2, f3, f4⟩ := p.env.own j k _ y1
            have e3 : σ'[j]? = (vs.map some)[j]? := by
              rw [y2]; unfold L2.start
              rw [List.getElem?_append_left (by rw [List.length_map]; omega)]
            rw [e3, q1] at f1; cases f1
            rw [q2] at f2; cases f2
            exact ⟨b, ys, q1, q2, Reps.keep (Keep.less sub) _ _ f3, fun w => w.elim q4 fun w => na j (w ▸ ⟨⟨k, _, e⟩, q1⟩)⟩
          · rw [y1] at h2; cases h2
        · exact absurd h1 (h2 k es)
      · rcases z with z | z
        · exact F1.out b z
        · rw [z, g2]; exact fun z => nomatch z
    refine h _ H' ⟨X, F1, .lst (fun w => ?_) g2 (Reps.keep (Keep.less F2) _ _ g3), fun _ => ⟨a, xs, ds, rfl, rfl, fresh, g2, Reps.keep (Keep.less sub) _ _ g3, E3⟩⟩
    rcases w with w | ⟨j, w⟩
    · exact g4 w
    · exact na j w
  | some (.ex e ρ'), h =>
    intro cls d σ' H' p
    obtain ⟨X, F⟩ := def_back E0 hc.2 p.ext p.env
    obtain ⟨F1, F2⟩ := F O (fun a z => .inl z) p.env
    exact h cls d H' ⟨X, F1, p.exc.less F2⟩
end
end L3

/-! E13b: a call with one argument that is a new list: the def may change it. -/
namespace L3
open PySem L2
def evCall1 (fe f : Ev R) : Ev R := f.bind fun r ρ => match r.fr, r.d with
  | true, .lst ds => match fe [.own 1 ds] with
    | none => none
    | some (.ok r2 _) => some (.ok ⟨r2.d, false⟩ ρ)
    | some (.ex e _) => some (.ex e ρ)
  | _, d => evCallR fe [.inr d] ρ
section
variable {O : Addr → Prop} {K : Frag} {M : XM} {W : WX} {σ σ0 σ1 σ2 : St} {ρ ρ0 ρ1 ρ2 : Sls} {H H0 H1 H2 : Hp}
theorem call1_new {fe : Ev R} {p : Addr} {xs : List V} {ds : List D} {Q : VK} (E1 : EnvR (fun a => O a ∨ a = p) K σ H1 ρ1) (E0 : EnvR O K σ H1 ρ1) (px : Ext σ ρ H σ ρ1 H1) (hp : H p = none) (hO : ∀ a, O a → H a ≠ none) (h1 : H1 p = some (.lst xs)) (rs : Reps (Ow (fun a => O a ∨ a = p) σ ρ1) K H1 xs ds)
    (h : Res K M W O σ ρ H (fun r ρ' => ∀ x H', Post O K σ ρ H r ρ' x H' → Q x H') (match fe [.own 1 ds] with
      | none => none
      | some (.ok r2 _) => some (.ok ⟨r2.d, false⟩ ρ1)
      | some (.ex e _) => some (.ex e ρ1))) : spF K M fe [.ref p] H1 Q (fun cls d H' => W cls d σ H') := by
  have np : ¬ Ow O σ ρ1 p := fun z => by
    rcases z with z | ⟨i, ⟨k, es, e1⟩, e2⟩
    · exact hO p z hp
    · obtain ⟨b, ys, g1, g2, g3, g4⟩ := E1.own i k es e1
      rw [e2] at g1; cases g1
      exact g4 (.inr rfl)
  have oA : ∀ n a, OwnAt ([V.ref p].map some) [.own 1 ds] n a → a = p := fun n a ⟨⟨k, es, e1⟩, e2⟩ => by
    cases n with
    | zero => cases e2; rfl
    | succ n => simp at e1
  have less : ∀ a, Ow (Ow O σ ρ1) ([V.ref p].map some) [.own 1 ds] a → Ow (fun a => O a ∨ a = p) σ ρ1 a := fun a z => by
    rcases z with (z | z) | ⟨n, z⟩
    · exact .inl (.inl z)
    · exact .inr z
    · exact .inl (.inr (oA n a z))
  have E2 : EnvR (Ow O σ ρ1) K ([V.ref p].map some) H1 [.own 1 ds] := by
    refine ⟨rfl, fun n d e => ?_, fun n k es e => ?_, fun n m a z1 z2 => ?_, fun a z => E0.owNe z⟩
    · cases n with
      | zero => cases e
      | succ n => simp at e
    · cases n with
      | zero => cases e; exact ⟨p, xs, rfl, h1, Reps.keep (Keep.less less) _ _ rs, np⟩
      | succ n => simp at e
    · obtain ⟨⟨_, _, e1⟩, _⟩ := z1
      obtain ⟨⟨_, _, e2⟩, _⟩ := z2
      cases n with
      | succ n => simp at e1
      | zero => cases m with
        | zero => rfl
        | succ m => simp at e2
  have back : ∀ {sl' : Sls} {H' : Hp}, Ext ([V.ref p].map some) [.own 1 ds] H1 ([V.ref p].map some) sl' H' → Ext σ ρ H σ ρ1 H' ∧ EnvR O K σ H' ρ1 := fun {sl' H'} x => by
    have k1 : ∀ a, H1 a ≠ none → a ≠ p → H' a = H1 a := fun a n z => x.keep a n fun i q => z (oA i a q)
    have kk : Keep (Ow (fun a => O a ∨ a = p) σ ρ1) H1 (Ow O σ ρ1) H' := fun a n z => ⟨fun q => n (q.elim (fun q => .inl (.inl q)) .inr), k1 a z fun q => n (.inl (.inr q))⟩
    refine ⟨⟨fun a n no => ?_, px.grow, fun a n => x.trk a (px.trk a n), px.lck, px.bor⟩, ⟨E0.len, fun i d e => ?_, fun i k es e => ?_, E0.inj, fun a z => x.trk a (E0.out a z)⟩⟩
    · have e := px.keep a n no
      exact (k1 a (by rw [e]; exact n) fun q => n (q ▸ hp)).trans e
    · obtain ⟨y, g1, g2⟩ := E1.val i d e
      exact ⟨y, g1, Rep.keep kk _ _ g2⟩
    · obtain ⟨a, ys, g1, g2, g3, g4⟩ := E1.own i k es e
      exact ⟨a, ys, g1, (k1 a (by rw [g2]; exact fun z => nomatch z) fun q => g4 (.inr q)).trans g2, Reps.keep kk _ _ g3, fun z => g4 (.inl z)⟩
  refine ⟨Ow O σ ρ1, [.own 1 ds], E2, ?_⟩
  revert h
  generalize fe [.own 1 ds] = m
  intro h
  match m, h with
  | some (.ok r sl'), h =>
    intro x H' q
    obtain ⟨r1, r2⟩ := back q.ext
    exact h x H' ⟨r1, r2, Rep.keep (Keep.less fun a z => .inl z) _ _ q.rep, fun z => nomatch z⟩
  | some (.ex e sl'), h =>
    intro cls d H' q
    obtain ⟨r1, r2⟩ := back q.ext
    exact h cls d H' ⟨r1, r2, q.exc.less fun a z => .inl z⟩
theorem call1_ok {fe f : Ev R} {Q : VK} (h : LX K M W (evCall1 fe f) σ H Q) : LAs K M W [.e f] σ H fun vs H1 => spF K M fe vs H1 Q (fun cls d H' => W cls d σ H') := by
  obtain ⟨O, ρ, E, h⟩ := h
  refine ⟨O, ρ, E, (Res.bind (f := f) h).mono fun r ρ1 h1 x H1 p => ?_⟩
  show spF K M fe [x] H1 Q _
  split at h1
  · rename_i ds ef ed
    obtain ⟨q, xs, es, g1, g2, g3, g4, g5, g6⟩ := p.fr ef
    rw [ed] at g2; cases g2
    subst g1
    exact call1_new g6 p.env p.ext g3 E.out g4 g5 h1
  · refine callR p.env p.ext (rs := [.inr _]) (.cons p.rep .nil) h1
end
end L3

/-! E13c: arguments without stars. -/
namespace L3
open PySem L2
/-- no star, .. -/
def noStar : Expr → Bool
  | .Starred _ _ => false
  | _ => true
theorem star_cons {e : Expr} {es : List Expr} {env : Env} (h : noStar e = true) : starEach (e :: es) env = (false, eval e env) :: starEach es env := by
  cases e <;> first | rfl | cases h
theorem star_any {es : List Expr} {env : Env} {pos : Pos} (h : es.all noStar = true) : ((backTo pos (starEach es env)).any fun x => x.fst) = false := by
  induction es with
  | nil => rfl
  | cons e es ih =>
    simp only [List.all_cons, Bool.and_eq_true] at h
    rw [star_cons h.1]
    unfold backTo at ih ⊢
    simp only [List.map_cons, List.any_cons, Bool.false_or]
    exact ih h.2
end L3

set_option maxRecDepth 100000
/-! X1: the program's own error classes: one whose __init__ keeps what it is given, made. -/
namespace L3
open PySem L2 PySem.W PySem.Calls PyProof.Rows PySem.HandSPX
def iniA (p1 : Pos) (fs : List (Str × Pos)) : Arguments := { posonlyargs := [], args := { arg := "self", annotation := none, pos := p1 } :: fs.map fun q => { arg := q.1, annotation := none, pos := q.2 }, vararg := none, kwonlyargs := [], kw_defaults := [], kwarg := none, defaults := [] }
structure Ps4 where
  a : Pos
  b : Pos
  c : Pos
  d : Pos
def iniB (fs : List (Str × Ps4)) : List Stmt := fs.map fun q => .Assign [.Attribute (.Name "self" q.2.a) q.1 q.2.b] (.Name q.1 q.2.c) q.2.d
def iniS (fs : List Str) : Scope := { kind := .function, names := (PySem.Str.ofString "self", .local) :: fs.map fun f => (f, .local), isGenerator := false, isCoroutine := false, more := [] }
/-- which built-in class stands behind: LookupError or ValueError -/
def bT (lk : Bool) : String := if lk then "LookupError" else "ValueError"
def bM (lk : Bool) : List Value := [.type (bT lk), .type "Exception", .type "BaseException", .type "object"]
def bN (lk : Bool) : String := if lk then "LookupError.__new__" else "ValueError.__new__"
def bI (lk : Bool) : String := if lk then "LookupError.__init__" else "ValueError.__init__"
theorem bF : ∀ lk, ExcBaseFacts (bT lk) (bN lk) (bI lk) (bM lk)
  | true => PySem.F.excBase_LookupError
  | false => PySem.F.excBase_ValueError
theorem bS : ∀ lk, StoreFacts (bT lk) (bM lk) "object.__setattr__" "object"
  | true => PySem.F.store_LookupError
  | false => PySem.F.store_ValueError
/-- what the written part says of an own error class at C with fields, its __init__ at f -/
structure IniAt (K : PySem.W.Frag) (C f : Addr) (lk : Bool) (nm : Str) (fs : List Str) : Prop where
  q : excInitIn K C (bM lk) (bN lk) = true
  ov : excOver K C (bM lk) = true
  sa : findIn K (.ref C) "__setattr__" = some (some (.builtin "object.__setattr__"))
  no : ∀ x ∈ fs, findIn K (.ref C) x = some none
  iC : findIn K (.ref C) "__init__" = some (some (.ref f))
  tC : typeIn K (.ref f) = some (.type "function")
  hd : hasDictIn K C = true
  fn : ∃ (oc : Value) (od : Option Addr) (doc pm : Value) (an : Option Addr) (cdv ct : Value) (osl : Array (Option Value)) (p1 : Pos) (ps : List Pos) (qs : List Ps4) (qn : Str), ps.length = fs.length ∧ qs.length = fs.length ∧
    (∀ (x : Addr) (us : List Value), us.length = fs.length → bindArgs (fnOf "__init__" qn (iniA p1 (fs.zip ps)) (iniB (fs.zip qs)) (iniS fs) .none .none doc pm an cdv ct) ⟨.ref x :: us, []⟩ = pure ((PySem.Str.ofString "self", .ref x) :: fs.zip us)) ∧
    K.lookup f = some ⟨oc, od, .func (fnOf "__init__" qn (iniA p1 (fs.zip ps)) (iniB (fs.zip qs)) (iniS fs) .none .none doc pm an cdv ct), osl⟩ ∧ codeIn K cdv qn = true
theorem one_sz (v : Value) : [v].length ≤ sizeLine := by rw [sizeLine_eq]; exact (by decide : 1 ≤ 16777216)
theorem two_sz (v u : Value) : [v, u].length ≤ sizeLine := by rw [sizeLine_eq]; exact (by decide : 2 ≤ 16777216)
/-- a local name of a def's frame -/
theorem ldL {M : Model} {s : Shared} {name : Str} {scope : Scope} {L a : Addr} {cd : Value} {m : Str → Option Value} {x : Str} {pos : Pos} {v : Value} {Q : Value → Shared → Prop} {A : Around} {E : Value → Shared → Prop} (hn : s.heap.Ns L m) (hv : m x = some v) (h : Q v s)
    (hk : scope.kind = .function) (hl : (envOfC name scope L a cd).kindOf x = some .local) (hd : (x == ("__debug__" : Str)) = false) :
    wpAny M A (eval (.Name x pos) (envOfC name scope L a cd)) Q E s := wpAny_Name (wpAny_loadName_local hk hl hn hv h) hd
section
open Builtin Builtin.ObjectAttr
variable {prog : Program} {w : World} {A : Around} {E : Value → Shared → Prop} {R : Result → Shared → Prop} {s : Shared} {K : PySem.W.Frag} {C : Addr} {lk : Bool}
/-- the first field -/
theorem first_field {x t0 : Addr} {name : Str} {tk : Tok} {v : Value} (X : K.In s.heap) (hx : s.heap.get? x = some (excO C t0)) (ov : excOver K C (bM lk) = true) (hd : hasDictIn K C = true) (no : findIn K (.ref C) name = some none)
    (hq : ∀ h' tk' dx, (∀ b o, b ≠ x → s.heap.get? b = some o → h'.get? b = some o) → s.heap.objs.size ≤ dx → dx ≠ x → h'.get? x = some { cls := .ref C, dict := some dx, data := .fields #[.ref t0, .none, .none, .none, .bool false, .none] } →
      h'.Ns1 dx (fun y => if y = name then some v else none) → R (.ok (.ret .none)) { s with heap := h', toks := tk' }) :
    codeAny (model prog w) A (.call (.builtin "object.__setattr__") ⟨[.ref x, .str name tk, v], []⟩) R s := by
  obtain ⟨hp, g, d, t, os⟩ := s
  have I : InstAt hp x (excO C t0) C none := ⟨hx, rfl, rfl, trivial⟩
  have hxs : x ≠ hp.objs.size := Nat.ne_of_lt (Heap.lt_size hx)
  obtain ⟨cd, hc, hdc⟩ := any_some hd
  have hcls : Looks (model prog w) hp (classData C) cd := looks_clsIn X hc
  refine osa_openX (bS lk) X I ov (r := none) (by unfold takerIn; rw [no]; rfl) fun b => ?_
  show wpAny _ _ (storeInOwnDict (.ref x) (.ref C) (.str name tk) name v b) _ _ _
  obtain ⟨nm, bs, mro, ns, qn, hd', sn, sb, ab, col, del⟩ := cd
  have hdc : hd' = true := hdc
  subst hdc
  unfold storeInOwnDict ownDictForStores
  repeat (first | with_reducible refine store_in_new ?_ ?_ | with_reducible refine wpAny_loadPart_at hx ?_ | with_reducible refine hcls.at ?_ | wp_step)
  · exact ⟨_, #[], _, (Heap.get?_update_ne _ _ _ _ hxs.symm).trans (Heap.get?_push_at rfl rfl), rfl, fun e he => absurd he (by simp), fun _ => rfl⟩
  · intro h' tk' hn' hs
    have hx1 : (hp.push { cls := .type "dict", data := .dict #[] }).get? x = some (excO C t0) := Heap.get?_push_of_some _ hx
    refine hq h' tk' hp.objs.size (fun b o hb ho => ?_) (Nat.le_refl _) hxs.symm ?_ hn'
    · exact (hs.2 b (Nat.ne_of_lt (Heap.lt_size ho))).trans ((Heap.get?_update_ne _ _ _ _ hb).trans (Heap.get?_push_of_some _ ho))
    · exact (hs.2 x hxs).trans (Heap.get?_update_self _ hx1 rfl)
/-- a further one -/
theorem next_field {x t0 dx : Addr} {name : Str} {tk : Tok} {v : Value} {m0 : Str → Option Value} {nl : List Str} (X : K.In s.heap) (hx : s.heap.get? x = some { cls := .ref C, dict := some dx, data := .fields #[.ref t0, .none, .none, .none, .bool false, .none] })
    (hns : s.heap.Ns1 dx m0) (hw : Within m0 nl) (hz : nl.length ≤ 1000) (ov : excOver K C (bM lk) = true) (hd : hasDictIn K C = true) (no : findIn K (.ref C) name = some none)
    (hq : ∀ h' tk', (∀ b o, b ≠ dx → s.heap.get? b = some o → h'.get? b = some o) → h'.Ns1 dx (fun y => if y = name then some v else m0 y) → R (.ok (.ret .none)) { s with heap := h', toks := tk' }) :
    codeAny (model prog w) A (.call (.builtin "object.__setattr__") ⟨[.ref x, .str name tk, v], []⟩) R s := by
  obtain ⟨hp, g, d, t, os⟩ := s
  obtain ⟨oD, esD, epD, hoD, hdD, _⟩ := hns.count hw
  have I : InstAt hp x { cls := .ref C, dict := some dx, data := .fields #[.ref t0, .none, .none, .none, .bool false, .none] } C (some oD) := ⟨hx, rfl, rfl, hoD⟩
  obtain ⟨cd, hc, hdc⟩ := any_some hd
  have hcls : Looks (model prog w) hp (classData C) cd := looks_clsIn X hc
  refine osa_openX (bS lk) X I ov (r := none) (by unfold takerIn; rw [no]; rfl) fun b => ?_
  show wpAny _ _ (storeInOwnDict (.ref x) (.ref C) (.str name tk) name v b) _ _ _
  obtain ⟨nm, bs, mro, ns, qn, hd', sn, sb, ab, col, del⟩ := cd
  have hdc : hd' = true := hdc
  subst hdc
  unfold storeInOwnDict ownDictForStores
  repeat (first | with_reducible refine OEX.store_in_old hns hw hz ?_ | with_reducible refine wpAny_loadPart_at hx ?_ | with_reducible refine hcls.at ?_ | wp_step)
  intro h' tk' hn' hs
  exact hq h' tk' (fun b o hb ho => (hs.2 b hb).trans ho) hn'
end
end L3

set_option maxRecDepth 100000
/-! X2: such a class's __init__; an object of it. -/
namespace L3
open PySem L2 PySem.W PySem.Calls PyProof.Rows PySem.HandSPX
/-- field names that stand in no one's way -/
def okF (f : Str) : Bool := !(f == ("self" : Str)) && !(f == ("__debug__" : Str))
/-- what the own dict holds -/
def fmap (fs : List Str) (vs : List Value) : Str → Option Value := fun y => (fs.zip vs).lookup y
structure InitEnd (h h' : Heap) (x C dx t1 : Addr) (m : Str → Option Value) : Prop where
  keep : ∀ b o, b ≠ x → h.get? b = some o → h'.get? b = some o
  obj : h'.get? x = some { cls := .ref C, dict := some dx, data := .fields #[.ref t1, .none, .none, .none, .bool false, .none] }
  dbig : h.objs.size ≤ dx
  dne : dx ≠ x
  ns : h'.Ns1 dx m
structure OwnMade (h h' : Heap) (e C d : Addr) (m : Str → Option Value) : Prop where
  keep : ∀ b o, h.get? b = some o → h'.get? b = some o
  new : h.objs.size ≤ e
  obj : ∃ oe vs, h'.get? e = some oe ∧ oe.cls = .ref C ∧ oe.dict = some d ∧ oe.data = .fields vs ∧ vs[1]? = some .none
  dbig : h.objs.size ≤ d
  dne : d ≠ e
  ns : h'.Ns1 d m
theorem fmap1 {f : Str} {v : Value} : (fun y => if y = f then some v else none) = fmap [f] [v] := by
  funext y
  by_cases e : y = f
  · subst e; simp [fmap, List.lookup]
  · have : (y == f) = false := by simpa using e
    simp [fmap, List.lookup, e, this]
theorem fmap2 {f g : Str} {v u : Value} (h : f ≠ g) : (fun y => if y = g then some u else fmap [f] [v] y) = fmap [f, g] [v, u] := by
  funext y
  by_cases e : y = g
  · subst e
    have : (y == f) = false := by simpa using fun z => h z.symm
    simp [fmap, List.lookup, this]
  · by_cases e2 : y = f
    · subst e2; simp [fmap, List.lookup, e]
    · have h1 : (y == f) = false := by simpa using e2
      have h2 : (y == g) = false := by simpa using e
      simp [fmap, List.lookup, e, h1, h2]
section
variable {prog : Program} {w : World} {A : Around} {E : Value → Shared → Prop} {R : Result → Shared → Prop} {s : Shared} {K : PySem.W.Frag} {C f : Addr} {lk : Bool} {nm n1 n2 : Str}
theorem look_self {fs : List Str} : (iniS fs).names.lookup ("self" : Str) = some NameKind.local := by
  simp [iniS, List.lookup]
theorem look_1 {fs : List Str} (h : okF n1 = true) : (iniS (n1 :: fs)).names.lookup n1 = some .local := by
  have e : (PySem.Str.ofString "self") = ("self" : Str) := rfl
  unfold okF at h
  simp only [Bool.and_eq_true, Bool.not_eq_true'] at h
  simp [iniS, List.lookup, e, h.1]
theorem look_2 (h : okF n2 = true) (d : n1 ≠ n2) : (iniS [n1, n2]).names.lookup n2 = some .local := by
  have e : (PySem.Str.ofString "self") = ("self" : Str) := rfl
  unfold okF at h
  simp only [Bool.and_eq_true, Bool.not_eq_true'] at h
  have : (n2 == n1) = false := by simpa using fun z => d z.symm
  simp [iniS, List.lookup, e, h.1, this]
theorem kindOf_of {name : Str} {scope : Scope} {L a : Addr} {cd : Value} {x : Str} (h : scope.names.lookup x = some .local) : (envOfC name scope L a cd).kindOf x = some .local := h
theorem ini1 (T : IniAt K C f lk nm [n1]) (o1 : okF n1 = true) {x t0 : Addr} {v : Value} (X : K.In s.heap) (hlim : s.heap.NoLimit) (hx : s.heap.get? x = some (excO C t0)) (hnx : K.lookup x = none) (hroom : A.depth < recursionLimit)
    (hq : ∀ h' tk dx, InitEnd s.heap h' x C dx t0 (fmap [n1] [v]) → R (.ok (.ret .none)) { s with heap := h', toks := tk }) :
    codeAny (model prog w) A (.call (.ref f) ⟨[.ref x, v], []⟩) R s := by
  obtain ⟨oc, od, doc, pm, an, cdv, ct, osl, p1, ps, qs, qn, l1, l2, hb, ho, hcd⟩ := T.fn
  obtain ⟨q1, rfl⟩ : ∃ q, qs = [q] := List.length_eq_one_iff.mp l2
  obtain ⟨p2, rfl⟩ : ∃ q, ps = [q] := List.length_eq_one_iff.mp l1
  have eS : (PySem.Str.ofString "self") = ("self" : Str) := rfl
  have o1' := o1
  unfold okF at o1'
  simp only [Bool.and_eq_true, Bool.not_eq_true'] at o1'
  refine Att.call_fn (binds := [("self", .ref x), (n1, v)]) X hlim ho hcd hroom (BindsTo.of_eq (hb x [v] rfl)) ?_ (fun s₁ IC => ?_) rfl rfl rfl
  · simp only [List.all_cons, List.all_nil, look_self, look_1 o1]; rfl
  obtain ⟨h₁, tk₁, rfl⟩ := IC.toInCall.same
  have k : ∀ b o, s.heap.get? b = some o → h₁.get? b = some o := IC.toInCall.keep
  have hn := IC.toInCall.ns
  have X₁ : K.In h₁ := X.keeps k
  have hx₁ := k _ _ hx
  show wpAny _ _ (execs _ _) _ _ _
  refine wpAny_execs_cons (plainObj_wpAny_Assign_Attribute ?_)
  have b1 : (bindL (envOfC qn (iniS [n1]) s.heap.objs.size f cdv).kindOf [("self", .ref x), (n1, v)] fun _ => none) n1 = some v := by
    have e := kindOf_of (name := qn) (L := s.heap.objs.size) (a := f) (cd := cdv) (look_1 (fs := []) o1)
    have e2 := kindOf_of (name := qn) (L := s.heap.objs.size) (a := f) (cd := cdv) (look_self (fs := [n1]))
    simp [bindL, e, e2]
  have b2 : (bindL (envOfC qn (iniS [n1]) s.heap.objs.size f cdv).kindOf [("self", .ref x), (n1, v)] fun _ => none) ("self" : Str) = some (.ref x) := by
    have e := kindOf_of (name := qn) (L := s.heap.objs.size) (a := f) (cd := cdv) (look_1 (fs := []) o1)
    have e2 := kindOf_of (name := qn) (L := s.heap.objs.size) (a := f) (cd := cdv) (look_self (fs := [n1]))
    have : ("self" : Str) ≠ n1 := fun z => by rw [← z] at o1'; simp at o1'
    simp [bindL, e, e2, this]
  refine ldL (v := v) hn b1 (ldL (v := .ref x) hn b2 ?_ rfl (kindOf_of look_self) (by decide)) rfl (kindOf_of (look_1 o1)) o1'.2
  refine set_plain X₁ (ox := excO C t0) (od := none) ⟨hx₁, rfl, rfl, trivial⟩ T.sa ?_
  refine first_field X₁ hx₁ T.ov T.hd (T.no n1 (by simp)) fun h₃ tk₃ dx k₃ dn dne hx₃ hn₃ => ?_
  show wpAny _ _ (execs _ _) _ _ _
  have z : s.heap.objs.size < h₁.objs.size := hn.lt
  rw [fmap1] at hn₃
  exact wpAny_execs_nil (hq h₃ tk₃ dx ⟨fun b o hb e => k₃ b o hb (k b o e), hx₃, Nat.le_of_lt (Nat.lt_of_lt_of_le z dn), dne, hn₃⟩)
end
end L3

set_option maxRecDepth 100000
/-! X3: two fields; the objects made. -/
namespace L3
open PySem L2 PySem.W PySem.Calls PyProof.Rows PySem.HandSPX
section
variable {prog : Program} {w : World} {A : Around} {E : Value → Shared → Prop} {R : Result → Shared → Prop} {s : Shared} {K : PySem.W.Frag} {C f : Addr} {lk : Bool} {nm n1 n2 : Str}
theorem len_two {α : Type} : ∀ {l : List α}, l.length = 2 → ∃ a b, l = [a, b]
  | [a, b], _ => ⟨a, b, rfl⟩
theorem look_1of2 (o1 : okF n1 = true) : (iniS [n1, n2]).names.lookup n1 = some .local := look_1 o1
theorem ini2 (T : IniAt K C f lk nm [n1, n2]) (o1 : okF n1 = true) (o2 : okF n2 = true) (d12 : n1 ≠ n2) {x t0 : Addr} {v u : Value} (X : K.In s.heap) (hlim : s.heap.NoLimit) (hx : s.heap.get? x = some (excO C t0)) (hnx : K.lookup x = none) (hroom : A.depth < recursionLimit)
    (hq : ∀ h' tk dx, InitEnd s.heap h' x C dx t0 (fmap [n1, n2] [v, u]) → R (.ok (.ret .none)) { s with heap := h', toks := tk }) :
    codeAny (model prog w) A (.call (.ref f) ⟨[.ref x, v, u], []⟩) R s := by
  obtain ⟨oc, od, doc, pm, an, cdv, ct, osl, p1, ps, qs, qn, l1, l2, hb, ho, hcd⟩ := T.fn
  obtain ⟨q1, q2, rfl⟩ : ∃ q r, qs = [q, r] := len_two l2
  obtain ⟨p2, p3, rfl⟩ : ∃ q r, ps = [q, r] := len_two l1
  have o1' := o1
  have o2' := o2
  unfold okF at o1' o2'
  simp only [Bool.and_eq_true, Bool.not_eq_true'] at o1' o2'
  refine Att.call_fn (binds := [("self", .ref x), (n1, v), (n2, u)]) X hlim ho hcd hroom (BindsTo.of_eq (hb x [v, u] rfl)) ?_ (fun s₁ IC => ?_) rfl rfl rfl
  · simp only [List.all_cons, List.all_nil, look_self, look_1 o1, look_2 o2 d12]; rfl
  obtain ⟨h₁, tk₁, rfl⟩ := IC.toInCall.same
  have k : ∀ b o, s.heap.get? b = some o → h₁.get? b = some o := IC.toInCall.keep
  have hn := IC.toInCall.ns
  have X₁ : K.In h₁ := X.keeps k
  have hx₁ := k _ _ hx
  have e1 := kindOf_of (name := qn) (L := s.heap.objs.size) (a := f) (cd := cdv) (look_1 (fs := [n2]) o1)
  have e2 := kindOf_of (name := qn) (L := s.heap.objs.size) (a := f) (cd := cdv) (look_2 o2 d12)
  have e0 := kindOf_of (name := qn) (L := s.heap.objs.size) (a := f) (cd := cdv) (look_self (fs := [n1, n2]))
  have ns1 : ("self" : Str) ≠ n1 := fun z => by rw [← z] at o1'; simp at o1'
  have ns2 : ("self" : Str) ≠ n2 := fun z => by rw [← z] at o2'; simp at o2'
  have b1 : (bindL (envOfC qn (iniS [n1, n2]) s.heap.objs.size f cdv).kindOf [("self", .ref x), (n1, v), (n2, u)] fun _ => none) n1 = some v := by simp [bindL, e0, e1, e2, d12]
  have b2 : (bindL (envOfC qn (iniS [n1, n2]) s.heap.objs.size f cdv).kindOf [("self", .ref x), (n1, v), (n2, u)] fun _ => none) n2 = some u := by simp [bindL, e0, e1, e2]
  have b0 : (bindL (envOfC qn (iniS [n1, n2]) s.heap.objs.size f cdv).kindOf [("self", .ref x), (n1, v), (n2, u)] fun _ => none) ("self" : Str) = some (.ref x) := by simp [bindL, e0, e1, e2, ns1, ns2]
  show wpAny _ _ (execs _ _) _ _ _
  refine wpAny_execs_cons (plainObj_wpAny_Assign_Attribute ?_)
  refine ldL (v := v) hn b1 (ldL (v := .ref x) hn b0 ?_ rfl e0 (by decide)) rfl e1 o1'.2
  refine set_plain X₁ (ox := excO C t0) (od := none) ⟨hx₁, rfl, rfl, trivial⟩ T.sa ?_
  refine first_field X₁ hx₁ T.ov T.hd (T.no n1 (by simp)) fun h₃ tk₃ dx k₃ dn dne hx₃ hn₃ => ?_
  have z : s.heap.objs.size < h₁.objs.size := hn.lt
  have hxL : s.heap.objs.size ≠ x := Nat.ne_of_gt (Heap.lt_size hx)
  have hn₃ : h₃.Ns1 dx (fmap [n1] [v]) := by rw [← fmap1]; exact hn₃
  have hn3 : h₃.Ns s.heap.objs.size _ := hn.at (fun o e => k₃ _ o hxL e)
  have X₃ : K.In h₃ := fun a o e => k₃ a o (fun q => by rw [q, hnx] at e; cases e) (X₁ a o e)
  show wpAny _ _ (execs _ _) _ _ _
  refine wpAny_execs_cons (plainObj_wpAny_Assign_Attribute ?_)
  refine ldL (v := u) hn3 b2 (ldL (v := .ref x) hn3 b0 ?_ rfl e0 (by decide)) rfl e2 o2'.2
  obtain ⟨oD, esD, epD, hoD, hdD, _⟩ := hn₃.count (ns := [n1]) (by rw [← fmap1]; exact Within.cons n1 v Within.nil)
  refine set_plain X₃ (ox := { cls := .ref C, dict := some dx, data := .fields #[.ref t0, .none, .none, .none, .bool false, .none] }) (od := some oD) ⟨hx₃, rfl, rfl, hoD⟩ T.sa ?_
  refine next_field X₃ hx₃ hn₃ (nl := [n1]) (by rw [← fmap1]; exact Within.cons n1 v Within.nil) (by simp) T.ov T.hd (T.no n2 (by simp)) fun h₄ tk₄ k₄ hn₄ => ?_
  have hn₄ : h₄.Ns1 dx (fmap [n1, n2] [v, u]) := by rw [← fmap2 d12]; exact hn₄
  show wpAny _ _ (execs _ _) _ _ _
  have ndx : ∀ b o, s.heap.get? b = some o → b ≠ dx := fun b o e q => by
    have a1 := Heap.lt_size e
    have a2 : s.heap.objs.size < dx := Nat.lt_of_lt_of_le z dn
    rw [q] at a1
    exact absurd (Nat.lt_trans a1 a2) (Nat.lt_irrefl _)
  exact wpAny_execs_nil (hq h₄ tk₄ dx ⟨fun b o hb e => k₄ b o (ndx b o e) (k₃ b o hb (k b o e)), k₄ x _ (Ne.symm dne) hx₃, Nat.le_of_lt (Nat.lt_of_lt_of_le z dn), dne, hn₄⟩)
/-- what the class gives behind a call -/
theorem err_made {fs : List Str} (T : IniAt K C f lk nm fs) {vs : List Value} (hl : vs.length ≤ sizeLine) (X : K.In s.heap) (hlim : s.heap.NoLimit) (hroom : A.depth + 1 < recursionLimit)
    (ini : ∀ {A : Around} {R : Result → Shared → Prop} {s : Shared} {x t0 : Addr}, K.In s.heap → s.heap.NoLimit → s.heap.get? x = some (excO C t0) → K.lookup x = none → A.depth < recursionLimit →
      (∀ h' tk dx, InitEnd s.heap h' x C dx t0 (fmap fs vs) → R (.ok (.ret .none)) { s with heap := h', toks := tk }) → codeAny (model prog w) A (.call (.ref f) ⟨.ref x :: vs, []⟩) R s)
    (hq : ∀ h' tk e d, OwnMade s.heap h' e C d (fmap fs vs) → R (.ok (.ret (.ref e))) { s with heap := h', toks := tk }) :
    codeAny (model prog w) A (.call (.ref C) ⟨vs, []⟩) R s := by
  obtain ⟨nm', N', qn, bs, bm, hdct, sn, sub, ab, col, dd, k0, k1, k2, k3, k5, hC, hT⟩ := excInit_of X T.q
  obtain ⟨hp, g, dr, tk, os⟩ := s
  have k : ∀ b o, hp.get? b = some o → ((hp.push (kdv_tup vs)).push (excO C hp.objs.size)).get? b = some o := fun b o e => Heap.get?_push_of_some _ (Heap.get?_push_of_some _ e)
  have hget : ((hp.push (kdv_tup vs)).push (excO C hp.objs.size)).get? (hp.objs.size + 1) = some (excO C hp.objs.size) := by heap_get
  have hnx : K.lookup (hp.objs.size + 1) = none := by
    cases e : K.lookup (hp.objs.size + 1) with
    | none => rfl
    | some o => exact absurd (Nat.lt_of_succ_lt (Heap.lt_size (show hp.get? (hp.objs.size + 1) = some o from X _ _ e))) (Nat.lt_irrefl _)
  refine call_own (bF lk) hT hC (looks_findIn X T.iC) (fun self => bind_fn X self T.tC) hl ?_
  refine ini (s := ⟨(hp.push (kdv_tup vs)).push (excO C hp.objs.size), g, dr, tk, os⟩) (X.keeps k) (hlim.keeps k) hget hnx ?_ fun h' tk' dx ⟨k', hx, dn, dne, hns⟩ => ?_
  · show A.depth + 1 < recursionLimit
    exact hroom
  · have old : ∀ b o, hp.get? b = some o → h'.get? b = some o := fun b o e => k' b o (Nat.ne_of_lt (Nat.lt_succ_of_lt (Heap.lt_size e))) (k b o e)
    have z : hp.objs.size + 1 + 1 ≤ dx := by
      have q := dn
      rw [Heap.size_push, Heap.size_push] at q
      exact q
    exact ⟨rfl, hq h' tk' (hp.objs.size + 1) dx ⟨old, Nat.le_succ _, ⟨_, _, hx, rfl, rfl, rfl, rfl⟩, Nat.le_trans (Nat.le_trans (Nat.le_succ _) (Nat.le_succ _)) z, dne, hns⟩⟩
end
end L3

set_option maxRecDepth 100000
/-! X4: raise C(..) of the program's own error classes. -/
namespace L3
open PySem L2 PyProof.Rows
/-- the names of fields may be kept -/
def okFs (fs : List Str) : Bool := match fs with
  | [] => true
  | [a] => okF a
  | [a, b] => okF a && okF b && !(a == b)
  | _ => false
structure ErrAt (K : PySem.W.Frag) (mg : Str → Option Value) (C : Addr) (lk : Bool) (nm : Str) (fs : List Str) : Prop where
  gC : mg nm = some (.ref C)
  kC : PySem.W.keepIn K (.ref C) = true
  tyC : PySem.W.typeIn K (.ref C) = some (.type "type")
  xc : ExcC K C
  ov : PySem.W.excOver K C (bM lk) = true
  no : ∀ x ∈ fs, PySem.W.findIn K (.ref C) x = some none
  mde : (fs = [] ∧ PySem.W.excIn K C (bM lk) (bN lk) = true) ∨ (fs ≠ [] ∧ okFs fs = true ∧ ∃ f, IniAt K C f lk nm fs)
theorem ErrAt.xf {K : PySem.W.Frag} {mg : Str → Option Value} {C : Addr} {lk : Bool} {nm : Str} {fs : List Str} (T : ErrAt K mg C lk nm fs) : XfC K C := ⟨T.xc.hg, T.xc.hk, T.xc.hs, T.xc.hd⟩
theorem relO_zip : ∀ {fs : List Str} {vs : List V} {us : List Value}, Vals vs us → ∀ y, RelO ((fs.zip vs).lookup y) (fmap fs us y)
  | [], vs, us, h, y => by cases h <;> exact trivial
  | f :: fs, _, _, .nil, y => trivial
  | f :: fs, _, _, .cons (a := v) (b := u) (l₁ := vs) (l₂ := us) r h, y => by
    have ih := relO_zip (fs := fs) h y
    unfold fmap at ih ⊢
    simp only [List.zip_cons_cons, List.lookup_cons]
    cases y == f with
    | true => exact r
    | false => exact ih
/-- what the making of an error reads as -/
def tMkE (C : Addr) (fs : List Str) (ta : TA) : L2.St → Hp → XK → Prop := fun σ H Q => ta σ H fun vs H1 => vs.length = fs.length ∧ (fs = [] → Q (.ref C) none H1) ∧ (fs ≠ [] → ∀ d, H1 d = none → Q (.ref C) (some d) (upd H1 d (.xd (fs.zip vs))))
section
variable {X : Cx} {C : Addr} {lk : Bool} {nm : Str} {fs : List Str}
theorem call_err (T : ErrAt X.K X.mg C lk nm fs) {k : Nat} (hr : Room k X.A) {pins : List (Addr × Obj)} {σ : L2.St} {H1 : Hp} {Q : XK} {s1 : Shared} {vs : List V} {us : List Value} (I1 : Inv X pins σ H1 s1) (r : Vals vs us) (hl : vs.length = fs.length)
    (q0 : fs = [] → Q (.ref C) none H1) (q1 : fs ≠ [] → ∀ d, H1 d = none → Q (.ref C) (some d) (upd H1 d (.xd (fs.zip vs)))) : wpAny (model X.prog X.w) X.A (PySem.call (.ref C) us) (MkP X pins σ Q) X.xe s1 := by
  have rs := raises_own (X := X) T.xc.hs T.tyC
  rcases T.mde with ⟨e, q⟩ | ⟨ne, ok, f, I⟩
  · subst e
    have : vs = [] := List.length_eq_zero_iff.mp hl
    subst this
    cases r
    obtain ⟨bm, N, nm, qn, bs, hdct, sn, sub, ab, col, dd, k0, k1, k2, k3, k5, mN, hC, hN, hni, T2⟩ := exc_obj I1.kIn q
    refine wpAny_call_exc_subT (bF lk) T2 hC hN hni (fun h' e hm => ?_) (by rw [sizeLine_eq]; exact Nat.zero_le _)
    exact mk_of I1 hm rs (q0 rfl) (I1.hok.gone hm.new)
  · have lu : us.length = fs.length := by rw [← r.length]; exact hl
    have hlim := I1.nolimit
    have go : us.length ≤ sizeLine → (∀ {A : Around} {R : Result → Shared → Prop} {s : Shared} {x t0 : Addr}, X.K.In s.heap → s.heap.NoLimit → s.heap.get? x = some (PySem.HandSPX.excO C t0) → X.K.lookup x = none → A.depth < recursionLimit →
        (∀ h' tk dx, InitEnd s.heap h' x C dx t0 (fmap fs us) → R (.ok (.ret .none)) { s with heap := h', toks := tk }) → codeAny (model X.prog X.w) A (.call (.ref f) ⟨.ref x :: us, []⟩) R s) →
        wpAny (model X.prog X.w) X.A (PySem.call (.ref C) us) (MkP X pins σ Q) X.xe s1 := fun sz ini => by
      obtain ⟨hp, g, dr, tk, os⟩ := s1
      refine wpAny_call (err_made I sz I1.kIn hlim (by have := hr.dp; omega) ini fun h' tk' e d M => ?_)
      show MkP X pins σ Q (.ref e) ⟨h', g, dr, tk', os⟩
      obtain ⟨oe, fv, hoe, hc, hd, hdat, h1⟩ := M.obj
      have hns := M.ns
      obtain ⟨G', g1, g2⟩ := restrict h' fun b => decide (b ≠ e)
      have gk : ∀ b, b ≠ e → G'.get? b = h'.get? b := fun b hb => g1 b (decide_eq_true hb)
      have ge : G'.get? e = none := g2 e (by simp)
      have old : ∀ b o, hp.get? b = some o → G'.get? b = some o := fun b o q => (gk b (Nat.ne_of_lt (Nat.lt_of_lt_of_le (Heap.lt_size q) M.new))).trans (M.keep b o q)
      have ob : ObjOk X.prog X.w (upd H1 d (.xd (fs.zip vs))) G' d (.xd (fs.zip vs)) := ⟨_, hns.at (fun o q => (gk d M.dne).trans q), fun y => relO_zip r y⟩
      have J : Inv X pins σ (upd H1 d (.xd (fs.zip vs))) ⟨G', g, dr, tk', os⟩ := I1.laid (t' := tk') old M.dbig ob
      refine ⟨e, oe, fv, ⟨G', g, dr, tk', os⟩, _, .ref C, some d, rfl, J, fun b o q => ?_, ge, hoe, ⟨hc, hd⟩, hdat, h1, ?_, rfl, I1.bare, rs, q1 ne d (I1.hok.fresh M.dbig)⟩
      · by_cases hb : b = e
        · have q' : G'.get? b = some o := q
          rw [hb, ge] at q'; cases q'
        · exact (gk b hb).symm.trans q
      · rw [upd_ne (Ne.symm M.dne)]
        exact I1.hok.fresh M.new
    match fs, us, lu, ok, I, ne with
    | [], _, _, _, _, ne => exact absurd rfl ne
    | [n1], [u1], _, ok, I, _ => exact go (one_sz _) fun X1 hl hx hn hr hq => ini1 I ok X1 hl hx hn hr hq
    | [n1, n2], [u1, u2], _, ok, I, _ =>
      unfold okFs at ok
      simp only [Bool.and_eq_true, Bool.not_eq_true'] at ok
      exact go (two_sz _ _) fun X1 hl hx hn hr hq => ini2 I ok.1.1 ok.1.2 (fun z => by rw [z] at ok; simp at ok) X1 hl hx hn hr hq
    | _ :: _ :: _ :: _, _, _, ok, _, _ => cases ok
theorem pmk_err0 {p pos : Pos} {k : Nat} (T : ErrAt X.K X.mg C lk nm fs) (hr : Room k X.A) (hg : Gl X nm) (hdb : (nm == ("__debug__" : Str)) = false) :
    PMk X (.Call (.Name nm p) [] [] pos) (tMkE C fs tNil) := by
  intro pins s σ H Q I h
  refine wpAny_Call_Name_kw (ld_glob I hg T.gC ?_ hdb)
  obtain ⟨hl, q0, q1⟩ := h
  exact PySem.W.callWith_K0 I.kIn T.kC (call_err T hr I .nil hl q0 q1)
theorem pmk_err {a : Expr} {rest : List Expr} {ta : TA} {p pos : Pos} {k : Nat} (T : ErrAt X.K X.mg C lk nm fs) (hr : Room k X.A) (ha : PA X (a :: rest) ta) (hs : (a :: rest).all noStar = true) (hg : Gl X nm) (hdb : (nm == ("__debug__" : Str)) = false) :
    PMk X (.Call (.Name nm p) (a :: rest) [] pos) (tMkE C fs ta) := by
  intro pins s σ H Q I h
  refine wpAny_Call_Name_kw (ld_glob I hg T.gC ?_ hdb)
  simp only [List.all_cons, Bool.and_eq_true] at hs
  refine PySem.W.callWith_K (h₀ := X.base) I.ok.mod.kin T.kC (thn (ha.run pos pins s σ H _ I h) fun us s1 hh => ?_) (star_cons hs.1) (star_any hs.2)
  obtain ⟨vs, H1, I1, r1, hl, q0, q1⟩ := hh
  exact ⟨I1.kIn, call_err T hr I1 r1 hl q0 q1⟩
end
end L3

set_option maxRecDepth 100000
/-! X5: raise as an evaluation. -/
namespace L3
open PySem L2
def allR : List (Nat ⊕ D) → Option (List D)
  | [] => some []
  | .inr d :: rs => match allR rs with
    | some ds => some (d :: ds)
    | none => none
  | .inl _ :: _ => none
/-- raise: class c, its fields' names -/
def sRaise (c : Str) (ns : List Str) (as : List SA) : EvS := fun ρ => match evAs as ρ with
  | none => none
  | some (.ex e ρ') => some (.ex e ρ')
  | some (.ok rs ρ') => match allR rs with
    | none => none
    | some ds => match Nat.beq ds.length ns.length with
      | true => some (.ex ⟨c, ns, ds⟩ ρ')
      | false => none
section
variable {O : Addr → Prop} {K : Frag} {M : XM} {W : WX} {σ : St} {ρ ρ1 : Sls} {H H1 : Hp}
theorem allR_ok : ∀ {xs : List V} {rs : List (Nat ⊕ D)} {ds : List D}, ARs O K σ ρ H xs rs → allR rs = some ds → Reps (Ow O σ ρ) K H xs ds
  | _, _, _, .nil, h => by cases h; exact .nil
  | _, _, _, .cons (r := .inl i) h t, e => by cases e
  | _, _, _, .cons (r := .inr d) (rs := rs) h t, e => by
    unfold allR at e
    split at e
    · rename_i ds e1
      cases e
      exact .cons h (allR_ok t e1)
    · cases e
theorem raise_ok {c : Str} {as : List SA} {C : Addr} {fs : List Str} (hM : exCls K c = some C) {D : Ends} (h : LS K M W (sRaise c fs as) D σ H) :
    LAs K M W as σ H fun vs H1 => vs.length = fs.length ∧ (fs = [] → W (.ref C) none σ H1) ∧ (fs ≠ [] → ∀ d, H1 d = none → W (.ref C) (some d) σ (upd H1 d (.xd (fs.zip vs)))) := by
  obtain ⟨O, ρ, E, h⟩ := h
  refine args_ok as ρ H _ E ?_
  unfold sRaise at h
  revert h
  generalize evAs as ρ = m
  intro h
  match m, h with
  | some (.ex e ρ'), h => exact fun cls d H' p => h cls d σ H' p
  | some (.ok rs ρ'), h =>
    intro vs H1 p
    simp only at h
    cases e1 : allR rs with
    | none => rw [e1] at h; exact h.elim
    | some ds =>
      rw [e1] at h
      simp only at h
      cases e2 : Nat.beq ds.length fs.length with
      | false => rw [e2] at h; exact h.elim
      | true =>
        rw [e2] at h
        have h : ∀ cls d σ' H', XPost O K M σ ρ H ⟨c, fs, ds⟩ ρ' cls d σ' H' → W cls d σ' H' := h
        have rp := allR_ok p.reps e1
        have l1 : vs.length = fs.length := by rw [rp.length, Nat.eq_of_beq_eq_true e2]
        refine ⟨l1, fun q => h _ _ σ H1 ⟨p.ext, p.env, C, vs, hM, rfl, l1, rp, .inl ⟨q, rfl⟩⟩, fun q d hd => h _ _ σ _ ?_⟩
        have nw : ∀ a, H1 a ≠ none → upd H1 d (.xd (fs.zip vs)) a = H1 a := fun a z => upd_ne fun y => z (y ▸ hd)
        have kp : Keep (Ow O σ ρ') H1 (Ow O σ ρ') (upd H1 d (.xd (fs.zip vs))) := fun a n z => ⟨n, nw a z⟩
        exact ⟨p.ext.trans (.new nw), p.env.new nw, C, vs, hM, rfl, l1, Reps.keep kp _ _ rp, .inr ⟨d, rfl, fun z => p.env.owNe z hd, upd_same⟩⟩
end
section
variable {X : Cx} {M : XM} {W : WX} {C : Addr} {lk : Bool} {nm : Str} {fs : List Str}
theorem s_raise {es : List Expr} {as : List SA} {k : Nat} {p pos pos2 : Pos} (T : ErrAt X.K X.mg C lk nm fs) (hM : exCls X.K nm = some C) (hr : Room k X.A) (hc : X.calm = true) (tk : Takes X W) (ha : PA X es (LAs X.K M W as)) (hs : es.all noStar = true) (hle : es.length = as.length) (hg : Gl X nm)
    (hdb : (nm == ("__debug__" : Str)) = false) : PS X (.Raise (some (.Call (.Name nm p) es [] pos)) none pos2) (LS X.K M W (sRaise nm fs as)) := by
  have key : PMk X (.Call (.Name nm p) es [] pos) (tMkE C fs (LAs X.K M W as)) := by
    cases es with
    | nil =>
      have e : as = [] := List.length_eq_zero_iff.mp hle.symm
      subst e
      exact pmk_err0 T hr hg hdb
    | cons a rest => exact pmk_err T hr ha hs hg hdb
  exact psImp (ps_raise hc tk key) fun D σ H q => raise_ok hM q
end
end L3

set_option maxRecDepth 100000
/-! X6: try .. except x as n: .. of several clauses; the error is an object of the heap from then on. -/
namespace L3
open PySem L2
theorem exoV_ok {P : Program} {w : World} {H : Hp} {h : Heap} {a C : Addr} {d : Option Addr} {oe : Obj} {vs : Array Value} (e : h.get? a = some oe) (z : Zc (.ref C) d oe) (hd : oe.data = .fields vs) : ObjOk P w H h a (exoV a C d) :=
  ⟨⟨oe, vs, e, z, hd⟩, ⟨oe, e⟩, fun _ _ ⟨o, v, q, r, t⟩ k => ⟨o, v, k o q, r, t⟩⟩
/-- the context of a suite in which the error at a is handled -/
abbrev hotX (X : Cx) (a : Addr) : Cx := { X with A := X.A.mark (some (.ref a)), calm := false, xe := fun _ _ => False }
section
variable {X : Cx} {pins : List (Addr × Obj)} {σ : St} {H : Hp} {s : Shared}
theorem Inv.hot {a : Addr} (I : Inv X pins σ H s) : Inv (hotX X a) pins σ H s :=
  ⟨⟨I.ok.mod, I.ok.kind, I.ok.glob, I.ok.blt, I.ok.above, I.ok.inj, I.ok.has, I.ok.cab, (fun z => absurd (show false = true from z) Bool.false_ne_true), I.ok.frames, I.ok.stk, I.ok.exf, I.ok.bs, I.ok.bsz, I.ok.noex, I.ok.exfs, I.ok.funs, I.ok.frf⟩,
    I.os, I.bare, I.base, I.loc, I.cell, I.free, I.freeC, I.pin, I.hok, I.len⟩
theorem Inv.cool {a : Addr} (I : Inv (hotX X a) pins σ H s) (ok : X.Ok) : Inv X pins σ H s :=
  ⟨ok, I.os, I.bare, I.base, I.loc, I.cell, I.free, I.freeC, I.pin, I.hok, I.len⟩
/-- an object that lies in the heap, known to nobody, is told of -/
theorem Inv.track {B : Heap} {a : Addr} {o : HO} {sI s' : Shared} (J : Inv X pins σ H sI) (nb : ∀ b o, sI.heap.get? b = some o → b ∉ frs X.stack → B.get? b = some o) (ba : B.get? a = none) (st : B.StaysIn s'.heap) (up : sI.heap.UpToSlots s'.heap) (os : s'.os = sI.os) (ag : PyProof.Rows.AllBare s'.gens)
    (nf : a ∉ frs X.stack) (hn : H a = none) (new : ObjOk X.prog X.w (upd H a o) s'.heap a o) : Inv X pins σ (upd H a o) s' := by
  have na : sI.heap.get? a = none := by
    cases e : sI.heap.get? a with
    | none => rfl
    | some u => rw [nb a u e nf] at ba; cases ba
  obtain ⟨G, g1, g2⟩ := restrict s'.heap fun b => decide (b ≠ a)
  have gk : ∀ b, b ≠ a → G.get? b = s'.heap.get? b := fun b hb => g1 b (decide_eq_true hb)
  have ga : G.get? a = none := g2 a (by simp)
  have stG : B.StaysIn G := fun b u e => by
    have hb : b ≠ a := fun z => by rw [z, ba] at e; cases e
    rw [gk b hb]; exact st b u e
  have upG : sI.heap.UpToSlots G := fun b u e => by
    have hb : b ≠ a := fun z => by rw [z, na] at e; cases e
    rw [gk b hb]; exact up b u e
  have J2 : Inv X pins σ H { s' with heap := G } := J.landed nb stG upG os ag
  have gs : ∀ b u, G.get? b = some u → s'.heap.get? b = some u := fun b u e => by
    by_cases hb : b = a
    · rw [hb, ga] at e; cases e
    · rw [← gk b hb]; exact e
  exact J2.un (Un.laidN gs ga hn) (J2.hok.laidN gs hn new)
end
end L3

set_option maxRecDepth 100000
set_option maxHeartbeats 1000000
/-! X7: the rule for try .. except x as n: .. -/
namespace L3
open PySem L2
/-- one clause: what its class is, the slot of its name, what its suite reads as -/
structure Cla where
  c : Value
  i : Nat
  ts : Addr → TS
/-- the ends of a suite: its name goes -/
def endsOf (i : Nat) (D : Ends) : Ends := { nx := fun σ' H' => D.nx (σ'.set i none) H', rt := D.rt, bk := fun σ' H' => D.bk (σ'.set i none) H', ct := fun σ' H' => D.ct (σ'.set i none) H' }
/-- what the clauses wish of an error of the body -/
def wTry (K : Frag) (Wout : WX) (D : Ends) : List Cla → WX
  | [] => Wout
  | q :: r => fun cls d σ H => ∃ b C, cls = .ref C ∧ PySem.W.exmOne K cls q.c = some b ∧ (b = true → ∀ a, H a = none → q.ts a (endsOf q.i D) (σ.set q.i (some (.ref a))) (upd H a (exoV a C d))) ∧ (b = false → wTry K Wout D r cls d σ H)
inductive ClasOk (X : Cx) : List ExceptHandler → List Cla → Prop
  | nil : ClasOk X [] []
  | cons {x n : Str} {c : Value} {i : Nat} {ts : Addr → TS} {b0 : Stmt} {body : List Stmt} {np p : Pos} {hs : List ExceptHandler} {l : List Cla} (hc : Names X x c) (hi : X.N[i]? = some n) (hl : X.env.kindOf n = some .local)
      (hsu : ∀ a, PSs (hotX X a) (b0 :: body) (ts a)) (r : ClasOk X hs l) : ClasOk X (.ExceptHandler (some (.Name x np)) (some n) (b0 :: body) p :: hs) (⟨c, i, ts⟩ :: l)
section
variable {X : Cx} {body : List Stmt} {h0 : ExceptHandler} {hs : List ExceptHandler} {l : List Cla} {pos : Pos} {tb : WX → TS} {Wout : WX}
theorem ps_tryE (hst : X.stack = X.env :: X.outer) (hfr0 : X.env.frame = some X.env.locals) (hN : X.N.Nodup) (tk : Takes X Wout)
    (hb : ∀ (W : WX) (pn : List (Addr × Obj)) (xe : Value → Shared → Prop), Takes (X.tr pn xe) W → PassesOwn (model X.prog X.w) X.A X.env xe → PSs (X.tr pn xe) body (tb W)) (hh : ClasOk X (h0 :: hs) l) :
    PS X (.Try body (h0 :: hs) [] [] pos) (fun D σ H => tb (wTry X.K Wout D l) D σ H) := by
  refine ⟨fun pins s σ H D I h => ?_⟩
  have ok := I.ok
  have hA : X.A.frames = some (X.env :: X.outer) := by rw [ok.frames, hst]
  refine wpAny_Try_except ?_
  refine wpAny_mono ((hb (wTry X.K Wout D l) (X.pn ++ pins) (fun e t1 => wpAny (model X.prog X.w) X.A (noteFrame e X.env) (fun _ t2 => wpAny (model X.prog X.w) X.A (setFlight e none) (fun _ t3 =>
    wpAny (model X.prog X.w) X.A (handleBy e X.env (h0 :: hs)) (SP X pins D) X.xe t3) X.xe t2) X.xe t1) (fun u s' xx => ?_) PassesOwn.looking).run [] s σ H D (I.toTry _) h) (fun f s1 hsp => ?_) (fun e s1 he => he)
  · -- the body raised
    obtain ⟨a, B, sI, pins', σ1, H1, cls, d, rfl, J0, nb, up, sky, na, os, ag, w⟩ := xx
    have J : Inv X pins σ1 H1 sI := J0.ofTry ok
    have sky1 : Sky B (X.env :: X.outer) a (Zc cls d) X.env.locals s'.heap := by rw [← hst]; exact sky
    show wpAny (model X.prog X.w) X.A (noteFrame (.ref a) X.env) _ _ _
    refine Sky.land Zc.steady hA hfr0 sky1 fun g3 fl3 up3 => ?_
    have ba : B.get? a = none := fl3.2.1
    have J3 : Inv X pins σ1 H1 { s' with heap := g3 } := J.landed nb fl3.1 (up.trans up3) os ag
    obtain ⟨oe3, vs3, he3, hz3, hd3⟩ := fl3.there
    have nfr : a ∉ frs (X.env :: X.outer) := fun hm => by
      obtain ⟨_, o', e', hnf⟩ := fl3.2.2.1.mem hm
      rw [he3] at e'; cases e'
      exact hnf _ hd3
    have nfs : a ∉ frs X.stack := by rw [hst]; exact nfr
    have nL : a ≠ X.env.locals := fun z => nfr (List.mem_filterMap.mpr ⟨X.env, List.mem_cons_self, by rw [hfr0, z]⟩)
    have nF : a ∉ X.fs := fun hm => by
      obtain ⟨e, he, q⟩ := List.mem_filterMap.mp hm
      exact nfr (List.mem_filterMap.mpr ⟨e, List.mem_cons_of_mem _ he, q⟩)
    have S3 := J3.suite he3 hd3 na nL nF
    have go : ∀ {hs' : List ExceptHandler} {l' : List Cla}, ClasOk X hs' l' → wTry X.K Wout D l' cls d σ1 H1 → wpAny (model X.prog X.w) X.A (handleBy (.ref a) X.env hs') (SP X pins D) X.xe { s' with heap := g3 } := by
      intro hs' l' hk
      induction hk with
      | nil =>
        intro w
        refine wpAny_handleBy_nil ?_
        obtain ⟨k1, k2, k3, oe, vs, T, oT, ts', he, hz, hd, h1, hr⟩ := id fl3
        unfold PySem.passOn
        refine wpAny_bind (wpAny_field he hd h1 ?_)
        rw [if_neg (show ¬ ((Value.ref T == Value.none) = true) from by simp)]
        have fin : wpAny (model X.prog X.w) X.A (setFlight (.ref a) X.env.frame) (fun _ t4 => wpAny (model X.prog X.w) X.A (throw (.ref a) : Sem Flow) (SP X pins D) X.xe t4) X.xe { s' with heap := g3 } := by
          rw [hfr0]
          refine PySem.HandSPX.setFlight_upZ fl3 fun g4 hh4 up4 => wpAny_throw (tk _ _ ?_)
          exact ⟨a, B, sI, pins, σ1, H1, cls, d, rfl, J, nb, (up.trans up3).trans up4, .inr (.inr (by rw [hst]; exact hh4)), na, os, ag, w⟩
        first
          | exact wpAny_bind (wpAny_pure (wpAny_bind fin))
          | exact wpAny_bind fin
      | @cons x n c i ts b0 suite np p hs2 l2 hc hi hln hsu r ih =>
        intro w
        obtain ⟨b, C, ec, hb1, hyes, hno⟩ := w
        have hloc : Loc X.env.scope n := .inl hln
        refine wpAny_handleBy_cons (codeAny_handlers_test ?_) (by intro q; cases q)
        have LT : PySem.W.Looks (model X.prog X.w) g3 (typeOf (.ref a)) cls := fun A Q E s k q => wpAny_typeOf_ref (k _ _ he3) (by rw [hz3.1]; exact q)
        have LM := PySem.W.exm_one (M := model X.prog X.w) (J3.kIn) LT hb1
        have look : ∀ {Q : Value → Shared → Prop} {E : Value → Shared → Prop}, Q c { s' with heap := g3 } → wpAny (model X.prog X.w) (X.A.mark (some (.ref a))) (eval (.Name x np) X.env) Q E { s' with heap := g3 } := fun {Q E} q => by
          obtain ⟨hg, hdbg, hm | ⟨hm, hv, hnn⟩⟩ := hc
          · exact ld_glob (X := X.suite a ((a, oe3) :: (X.pn ++ pins))) S3 hg hm q hdbg
          · exact ld_blt (X := X.suite a ((a, oe3) :: (X.pn ++ pins))) S3 hg hm hv q hnn hdbg
        refine look (LM.here ?_)
        cases b with
        | false =>
          show wpAny _ X.A (handleBy (.ref a) X.env hs2) _ _ _
          exact ih (hno rfl)
        | true =>
          refine codeAny_handlers_suite_as ?_
          refine PySem.HandSPX.lands_againZ fl3 fun g4 fl4 up4 => ?_
          obtain ⟨oe4, vs4, he4, hz4, hd4⟩ := fl4.there
          have T4 : Inv X pins σ1 (upd H1 a (exoV a C d)) { s' with heap := g4 } := Inv.track J nb ba fl4.1 ((up.trans up3).trans up4) os ag nfs na (exoV_ok he4 (by rw [← ec]; exact hz4) hd4)
          refine store_ok (X := hotX X a) (v := .ref a) (Inv.hot T4) hN hi hloc rfl (fun s5 S5 => ?_) (.inr hln)
          refine wpAny_mono ((hsu a).run pins s5 _ _ _ S5 (hyes rfl a na)) (fun f s6 hsp => ?_) (fun _ _ z => False.elim z)
          have fin : ∀ {σ6 : St} {H6 : Hp} {Q : Shared → Prop}, Inv (hotX X a) pins σ6 H6 s6 → (∀ s7, Inv X pins (σ6.set i none) H6 s7 → Q s7) →
              wpAny (model X.prog X.w) X.A (do bindName X.env n .none; unbindBehindTheSuite X.env n p) (fun _ s7 => Q s7) X.xe s6 := fun {σ6 H6 Q} S6 hq => gone_ok (Inv.cool S6 ok) hN hi hln hq
          cases f with
          | next =>
            obtain ⟨σ6, H6, S6, q6⟩ := hsp
            exact fin S6 fun s7 J7 => ⟨_, _, J7, q6⟩
          | brk =>
            obtain ⟨σ6, H6, S6, q6⟩ := hsp
            exact fin S6 fun s7 J7 => ⟨_, _, J7, q6⟩
          | cont =>
            obtain ⟨σ6, H6, S6, q6⟩ := hsp
            exact fin S6 fun s7 J7 => ⟨_, _, J7, q6⟩
          | ret u =>
            obtain ⟨v6, σ6, H6, S6, r6, q6⟩ := hsp
            exact fin S6 fun s7 J7 => ⟨_, _, _, J7, r6, q6⟩
    exact go hh w
  · cases f with
    | next =>
      obtain ⟨σ', H', J', q⟩ := hsp
      exact wpAny_execs_nil ⟨σ', H', J'.ofTry ok, q⟩
    | brk =>
      obtain ⟨σ', H', J', q⟩ := hsp
      exact ⟨σ', H', J'.ofTry ok, q⟩
    | cont =>
      obtain ⟨σ', H', J', q⟩ := hsp
      exact ⟨σ', H', J'.ofTry ok, q⟩
    | ret u =>
      obtain ⟨v, σ', H', J', r, q⟩ := hsp
      exact ⟨v, σ', H', J'.ofTry ok, r, q⟩
end
end L3

/-! X8: try as an evaluation. -/
namespace L3
open PySem L2
section
variable {O : Addr → Prop} {K : Frag} {M : XM} {W : WX} {σ σ0 σ1 : St} {ρ ρ0 ρ1 : Sls} {H H0 H1 : Hp}
theorem setSn {σ : St} {i j : Nat} (h : i < σ.length) : (σ.set i none)[j]? = if j = i then some none else σ[j]? := by
  by_cases e : j = i
  · subst e; rw [if_pos rfl, List.getElem?_set_self h]
  · rw [if_neg e, List.getElem?_set_ne (Ne.symm e)]
/-- a slot is emptied -/
theorem EnvR.setN {i : Nat} (E : EnvR O K σ H ρ) (hf : free ρ i = true) : Ext σ ρ H (σ.set i none) (ρ.set i .unk) H ∧ EnvR O K (σ.set i none) H (ρ.set i .unk) := by
  obtain ⟨hl, hk⟩ := free_of hf
  have hs : i < σ.length := by rw [E.len]; exact hl
  have mine : ∀ j b, OwnAt (σ.set i none) (ρ.set i .unk) j b → OwnAt σ ρ j b ∧ j ≠ i := fun j b ⟨⟨k', es, e1⟩, e2⟩ => by
    rcases get_set e1 with ⟨_, z⟩ | ⟨z1, z2⟩
    · cases z
    · rw [setSn hs, if_neg z1] at e2
      exact ⟨⟨⟨k', es, z2⟩, e2⟩, z1⟩
  have less : ∀ b, Ow O (σ.set i none) (ρ.set i .unk) b → Ow O σ ρ b := fun b z => z.elim .inl fun ⟨j, z⟩ => .inr ⟨j, (mine j b z).1⟩
  have kp := Keep.less (H := H) less
  refine ⟨⟨fun _ _ _ => rfl, fun j b z => .inl ⟨j, (mine j b z).1⟩, fun _ n => n, fun j k es hk' z => ?_, fun j k es hk' z => ?_⟩, ⟨by rw [List.length_set, List.length_set]; exact E.len, fun j d' e => ?_, fun j k' es e => ?_, fun j l b z1 z2 => E.inj j l b (mine j b z1).1 (mine l b z2).1, E.out⟩⟩
  · have ne : j ≠ i := fun q => by subst q; have := hk _ _ z; omega
    exact ⟨by rw [List.getElem?_set_ne (Ne.symm ne)]; exact z, by rw [setSn hs, if_neg ne]⟩
  · have ne : j ≠ i := fun q => by subst q; have := hk _ _ z; omega
    exact ⟨⟨es, by rw [List.getElem?_set_ne (Ne.symm ne)]; exact z⟩, by rw [setSn hs, if_neg ne]⟩
  · rcases get_set e with ⟨rfl, z⟩ | ⟨zn, z⟩
    · cases z
    · obtain ⟨y, g1, g2⟩ := E.val j d' z
      exact ⟨y, by rw [setSn hs, if_neg zn]; exact g1, Rep.keep kp _ _ g2⟩
  · rcases get_set e with ⟨rfl, z⟩ | ⟨zn, z⟩
    · cases z
    · obtain ⟨b, ys, g1, g2, g3, g4⟩ := E.own j k' es z
      exact ⟨b, ys, by rw [setSn hs, if_neg zn]; exact g1, g2, Reps.keep kp _ _ g3, g4⟩
theorem SPost.unset {i : Nat} (p : SPost O K σ0 ρ0 H0 ρ σ H) (hf : free ρ i = true) : SPost O K σ0 ρ0 H0 (ρ.set i .unk) (σ.set i none) H := by
  obtain ⟨z1, z2⟩ := p.env.setN hf
  exact ⟨p.ext.trans z1, z2⟩
end
/-- behind a suite: the name goes -/
def clsOut (i : Nat) : Option SOut → Option SOut
  | some (.nx ρ) => match free ρ i with
    | true => some (.nx (ρ.set i .unk))
    | false => none
  | some (.bk ρ) => match free ρ i with
    | true => some (.bk (ρ.set i .unk))
    | false => none
  | some (.ct ρ) => match free ρ i with
    | true => some (.ct (ρ.set i .unk))
    | false => none
  | some (.rt r ρ) => some (.rt r ρ)
  | some (.ro j ρ) => some (.ro j ρ)
  | _ => none
structure ClaE where
  nm : Str
  i : Nat
  f : EvS
def sCatch (tbl : List Str) (e : Exc) (ρ : Sls) : List ClaE → Option SOut
  | [] => some (.ex e ρ)
  | q :: r => match tbl.contains e.c with
    | true => match q.nm == e.c with
      | true => match free ρ q.i with
        | true => clsOut q.i (q.f (ρ.set q.i (.v (.err e.c e.ns e.fs))))
        | false => none
      | false => sCatch tbl e ρ r
    | false => none
def sTry (tbl : List Str) (tb : EvS) (cs : List ClaE) : EvS := fun ρ => match tb ρ with
  | some (.ex e ρ') => sCatch tbl e ρ' cs
  | m => m
/-- the program's error classes do not stand above one another -/
def Flat (K : Frag) (tbl : List Str) : Prop := ∀ x y C D, tbl.contains x = true → tbl.contains y = true → exCls K x = some C → exCls K y = some D → PySem.W.exmOne K (.ref C) (.ref D) = some (y == x)
inductive ClasE (K : Frag) (M : XM) (tbl : List Str) : List Cla → List ClaE → Prop
  | nil : ClasE K M tbl [] []
  | cons {nm : Str} {D : Addr} {i : Nat} {f : EvS} {l : List Cla} {cs : List ClaE} (h1 : tbl.contains nm = true) (h2 : exCls K nm = some D) (r : ClasE K M tbl l cs) : ClasE K M tbl (⟨.ref D, i, fun _ => LS K M (fun _ _ _ _ => False) f⟩ :: l) (⟨nm, i, f⟩ :: cs)
section
variable {K : Frag} {M : XM} {W : WX}
theorem catch_ok {tbl : List Str} (F : Flat K tbl) {O : Addr → Prop} {σ σ' : St} {ρ ρ' : Sls} {H H' : Hp} {D : Ends} {e : Exc} {cls : Value} {d : Option Addr} (p : XPost O K M σ ρ H e ρ' cls d σ' H') :
    ∀ {l : List Cla} {cs : List ClaE}, ClasE K M tbl l cs → SRes K M W O σ ρ H D (sCatch tbl e ρ' cs) → wTry K W D l cls d σ' H'
  | _, _, .nil, h => h cls d σ' H' p
  | _, _, .cons (nm := nm) (D := A) (i := i) (f := f) (l := l) (cs := cs) h1 h2 r, h => by
    obtain ⟨C, xs, c1, c2, c3, c4, c5⟩ := p.exc
    unfold sCatch at h
    cases ht : tbl.contains e.c with
    | false => rw [ht] at h; exact h.elim
    | true =>
      rw [ht] at h
      simp only at h
      refine ⟨nm == e.c, C, c2, by rw [c2]; exact F _ _ _ _ ht h1 c1 h2, fun hb a na => ?_, fun hb => ?_⟩
      · simp only [hb] at h
        cases hf : free ρ' i with
        | false => simp only [hf] at h; exact h.elim
        | true =>
          simp only [hf] at h
          have nw : ∀ b, H' b ≠ none → upd H' a (exoV a C d) b = H' b := fun b z => upd_ne fun y => z (y ▸ na)
          have kp : Keep (Ow O σ' ρ') H' (Ow O σ' ρ') (upd H' a (exoV a C d)) := fun b n z => ⟨n, nw b z⟩
          have rp : Rep (Ow O σ' ρ') K (upd H' a (exoV a C d)) (.ref a) (.err e.c e.ns e.fs) := by
            refine .err ⟨C, d, c1, fun z => p.env.owNe z na, upd_same, c3, ?_⟩ (Reps.keep kp _ _ c4)
            rcases c5 with c5 | ⟨da, g1, g2, g3⟩
            · exact .inl c5
            · exact .inr ⟨da, g1, g2, (nw da (by rw [g3]; exact fun z => nomatch z)).trans g3⟩
          have E2 := p.env.new nw
          obtain ⟨z1, z2⟩ := E2.setV hf rp
          have x1 : Ext σ ρ H (σ'.set i (some (.ref a))) (ρ'.set i (.v (.err e.c e.ns e.fs))) (upd H' a (exoV a C d)) := (p.ext.trans (.new nw)).trans z1
          refine ⟨O, _, z2, ?_⟩
          generalize f (ρ'.set i (.v (.err e.c e.ns e.fs))) = m at h ⊢
          match m, h with
          | some (.nx ρ2), h =>
            intro σ2 H2 p2
            cases hg : free ρ2 i with
            | false => simp only [clsOut, hg] at h; exact h.elim
            | true => simp only [clsOut, hg] at h; exact h _ _ ((p2.after x1).unset hg)
          | some (.bk ρ2), h =>
            intro σ2 H2 p2
            cases hg : free ρ2 i with
            | false => simp only [clsOut, hg] at h; exact h.elim
            | true => simp only [clsOut, hg] at h; exact h _ _ ((p2.after x1).unset hg)
          | some (.ct ρ2), h =>
            intro σ2 H2 p2
            cases hg : free ρ2 i with
            | false => simp only [clsOut, hg] at h; exact h.elim
            | true => simp only [clsOut, hg] at h; exact h _ _ ((p2.after x1).unset hg)
          | some (.rt r2 ρ2), h => exact fun x σ2 H2 p2 => h x σ2 H2 (p2.after x1)
          | some (.ro j ρ2), h => exact fun x σ2 H2 p2 => h x σ2 H2 (p2.after x1)
      · simp only [hb] at h
        exact catch_ok F p r h
theorem try_ok {tbl : List Str} (F : Flat K tbl) {tb : EvS} {l : List Cla} {cs : List ClaE} (hl : ClasE K M tbl l cs) {D : Ends} {σ : St} {H : Hp} (h : LS K M W (sTry tbl tb cs) D σ H) : LS K M (wTry K W D l) tb D σ H := by
  obtain ⟨O, ρ, E, h⟩ := h
  refine ⟨O, ρ, E, ?_⟩
  unfold sTry at h
  generalize tb ρ = m at h ⊢
  match m, h with
  | some (.nx ρ2), h => exact h
  | some (.bk ρ2), h => exact h
  | some (.ct ρ2), h => exact h
  | some (.rt r ρ2), h => exact h
  | some (.ro j ρ2), h => exact h
  | some (.ex e ρ'), h => exact fun cls d σ' H' p => catch_ok F p hl h
end
end L3

set_option maxRecDepth 100000
/-! X9: isinstance of errors and of plain things, own classes among those asked for. -/
namespace L3
open PySem L2
/-- a class that is asked for: a built-in type, an error class of the program, LookupError (true) or ValueError (false) -/
inductive Tq where
  | ty (t : Ty) | own (nm : Str) | exc (lk : Bool)
/-- the class as a value -/
inductive TqV (K : Frag) : Tq → V → Value → Prop
  | ty (t : Ty) : TqV K (.ty t) (.ty t.nm) (.type t.nm)
  | own {nm : Str} {C : Addr} (h : exCls K nm = some C) : TqV K (.own nm) (.ref C) (.ref C)
  | exc (lk : Bool) : TqV K (.exc lk) (.ty (bT lk)) (.type (bT lk))
def Tq.hitE (nm : Str) (lk : Bool) : Tq → Bool
  | .ty _ => false
  | .own m => m == nm
  | .exc b => b == lk
def Tq.hitD (t : Ty) : Tq → Bool
  | .ty u => t.is u
  | _ => false
abbrev ExTab := List (Str × Bool × List Str)
def ExTab.names (tb : ExTab) : List Str := tb.map (·.1)
/-- what is known of the program's error classes -/
structure Exs (K : Frag) (mg : Str → Option Value) (tb : ExTab) : Prop where
  «at» : ∀ nm lk fs, tb.lookup nm = some (lk, fs) → ∃ C, exCls K nm = some C ∧ ErrAt K mg C lk nm fs
  flat : Flat K tb.names
theorem lookup_has {tb : ExTab} {nm : Str} {r : Bool × List Str} (h : tb.lookup nm = some r) : tb.names.contains nm = true := by
  induction tb with
  | nil => cases h
  | cons q tb ih =>
    obtain ⟨k, v⟩ := q
    rw [List.lookup_cons] at h
    cases e : nm == k with
    | true => simp [ExTab.names, eq_of_beq e]
    | false =>
      rw [e] at h
      have := ih h
      unfold ExTab.names at this ⊢
      rw [List.map_cons, List.contains_cons, this, Bool.or_true]
theorem has_lookup {tb : ExTab} {nm : Str} (h : tb.names.contains nm = true) : ∃ lk fs, tb.lookup nm = some (lk, fs) := by
  induction tb with
  | nil => cases h
  | cons q tb ih =>
    obtain ⟨k, lk, fs⟩ := q
    rw [List.lookup_cons]
    cases e : nm == k with
    | true => exact ⟨lk, fs, rfl⟩
    | false =>
      refine ih ?_
      unfold ExTab.names at h ⊢
      rw [List.map_cons, List.contains_cons, e, Bool.false_or] at h
      exact h
section
variable {K : Frag} {mg : Str → Option Value} {C D : Addr} {lk : Bool} {nm : Str} {fs : List Str}
theorem ErrAt.clsI (T : ErrAt K mg C lk nm fs) : (PySem.W.clsIn K C).isSome = true := by
  obtain ⟨cd, h, _⟩ := PySem.W.any_some T.xc.hd
  rw [h]; rfl
theorem ErrAt.kitP (T : ErrAt K mg C lk nm fs) {t : Ty} : PySem.W.kitOne K (.type t.nm) (.ref C) = some false := by
  have h : PySem.W.kitCls K (.type t.nm) (.ref C) = some false := by
    show (if ((PySem.W.clsIn K C).isSome && PySem.W.typeIn K (.ref C) == some (.type "type")) = true then PySem.W.subIn K (.type t.nm) (.ref C) else none) = _
    rw [T.clsI, T.tyC, if_pos (by rfl)]
    cases t <;> rfl
  exact h
theorem ErrAt.sub (T : ErrAt K mg C lk nm fs) (x : String) : PySem.W.subIn K (.ref C) (.type x) = some ((bM lk).contains (.type x)) := by
  obtain ⟨cd, hc, ho⟩ := PySem.W.any_some T.ov
  split at ho
  · rename_i C' bm hm
    simp only [Bool.and_eq_true, beq_iff_eq] at ho
    show PySem.W.mroIn K C (.type x) = _
    unfold PySem.W.mroIn
    rw [hc, Option.bind_some, hm, if_neg (by simp), List.contains_cons, PySem.W.excTail_contains x _ ho.2]
    rfl
  · cases ho
theorem ErrAt.kitT (T : ErrAt K mg C lk nm fs) {x : String} (hm : PySem.W.kitMeta x = true) : PySem.W.kitOne K (.ref C) (.type x) = some ((bM lk).contains (.type x)) := by
  have h : PySem.W.kitCls K (.ref C) (.type x) = some ((bM lk).contains (.type x)) := by
    show (if PySem.W.kitMeta x = true then PySem.W.subIn K (.ref C) (.type x) else none) = _
    rw [if_pos hm]
    exact T.sub x
  exact h
theorem kitO {b : Bool} (h : PySem.W.exmOne K (.ref C) (.ref D) = some b) (e : C = D → b = true) : PySem.W.kitOne K (.ref C) (.ref D) = some b := by
  unfold PySem.W.kitOne
  by_cases q : C = D
  · subst q; rw [if_pos (by simp), e rfl]
  · rw [if_neg (by simpa using q)]
    unfold PySem.W.exmOne at h
    split at h
    · exact h
    · cases h
end
/-- a thing whose class is known: a plain one, or an error -/
inductive KitV (K : Frag) (H : Hp) : V → Value → Prop
  | pl {x : V} {t : Value} (h : TyX K H x t) : KitV K H x t
  | er {a C : Addr} {d : Option Addr} {mg : Str → Option Value} {lk : Bool} {nm : Str} {fs : List Str} (h : H a = some (exoV a C d)) (hd : d = none ∨ ∃ da gs, d = some da ∧ H da = some (.xd gs)) (T : ErrAt K mg C lk nm fs) : KitV K H (.ref a) (.ref C)
section
variable {X : Cx}
theorem kitv_of {pins : List (Addr × Obj)} {σ : St} {H : Hp} {s : Shared} {x : V} {u t : Value} (I : Inv X pins σ H s) (rx : RelV x u) (ty : KitV X.K H x t) : ∃ P : Heap → Prop, PySem.W.KitX X.K u t P ∧ P s.heap ∧ u ≠ .builtin "__main__.__loader__#opaque" := by
  cases ty with
  | pl h => exact kit_of I rx h
  | @er a C d mg lk nm fs h hd T =>
    cases (show u = Value.ref a from rx)
    obtain ⟨⟨oe, vs, h1, h2, h3⟩, _⟩ := (show ObjOk X.prog X.w H s.heap a (exoV a C d) from I.hok a _ h)
    have nc : PySem.W.notCls oe = true := by unfold PySem.W.notCls; rw [h3]
    rcases hd with rfl | ⟨da, gs, rfl, e⟩
    · exact ⟨_, PySem.W.kitx_exc (od := none) T.clsI T.xc.hg T.xc.hk T.xc.hs T.xc.ha T.xc.hn T.xc.ht T.xc.hm, ⟨h1, h2.1, nc, by rw [h2.2]; trivial⟩, fun z => nomatch z⟩
    · obtain ⟨mA, ⟨o, es, ep, ho, _⟩, _⟩ := (show ObjOk X.prog X.w H s.heap da (.xd gs) from I.hok da _ e)
      exact ⟨_, PySem.W.kitx_exc (od := some o) T.clsI T.xc.hg T.xc.hk T.xc.hs T.xc.ha T.xc.hn T.xc.ht T.xc.hm, ⟨h1, h2.1, nc, by rw [h2.2]; exact ho⟩, fun z => nomatch z⟩
def rIsC (K : Frag) : List V → Hp → VK → Prop := fun xs H Q => ∃ (x c : V) (t u : Value) (b : Bool), xs = [x, c] ∧ ClsV c u ∧ KitV K H x t ∧ PySem.W.kitOne K t u = some b ∧ Q (.bl b) H
def rIsCT (K : Frag) : List V → Hp → VK → Prop := fun xs H Q => ∃ (x : V) (tp : Addr) (cs : List V) (t : Value) (us : List Value) (b : Bool), xs = [x, .ref tp] ∧ H tp = some (.tup cs) ∧ Paired ClsV cs us ∧ KitV K H x t ∧ PySem.W.kitAny K t us = some b ∧ Q (.bl b) H
theorem call_isC : CallR X (.builtin "isinstance") (rIsC X.K) := by
  intro pins s σ H xs us Q I r ⟨x, c, t, u, b, hx, k, ty, e, q⟩
  subst hx
  obtain ⟨u1, u2, rfl, r1, r2⟩ := vals2 r
  have e2 := k.eq r2
  subst e2
  obtain ⟨P, Z, p, ne⟩ := kitv_of I r1 ty
  exact PySem.W.kia_one Z I.kIn p e ne fun tk => ⟨.bl b, H, I.tok tk, rfl, q⟩
theorem call_isCT : CallR X (.builtin "isinstance") (rIsCT X.K) := by
  intro pins s σ H xs us Q I r ⟨x, tp, cs, t, ws, b, hx, hT, k, ty, e, q⟩
  subst hx
  obtain ⟨u1, u2, rfl, r1, r2⟩ := vals2 r
  cases (show u2 = Value.ref tp from r2)
  obtain ⟨P, Z, p, ne⟩ := kitv_of I r1 ty
  obtain ⟨_, its, rv, o, h1, h2, n, h3⟩ := (show ObjOk X.prog X.w H s.heap tp (.tup cs) from I.hok tp _ hT)
  have e3 := ClsV.all k rv
  subst e3
  obtain ⟨oc, od, dt, sl⟩ := o
  dsimp only at h2 h3
  subst h2 h3
  exact PySem.W.kia_tup Z I.kIn p (by simpa using h1) (by simpa using e) ne fun tk => ⟨.bl b, H, I.tok tk, rfl, q⟩
end
end L3

set_option maxRecDepth 100000
/-! X10: isinstance and e.f as primitives. -/
namespace L3
open PySem L2
def okQ (tb : ExTab) : Tq → Bool
  | .own m => tb.names.contains m
  | _ => true
def gIsC (tb : ExTab) (bs : List Tq) : List D → Option R
  | [.err nm _ _] => match tb.lookup nm with
    | some r => some ⟨.bl (bs.any (Tq.hitE nm r.1)), false⟩
    | none => none
  | [d] => gd d.pl ⟨.bl (bs.any (Tq.hitD d.ty)), false⟩
  | _ => none
inductive TqVs (K : Frag) : List Tq → List V → List Value → Prop
  | nil : TqVs K [] [] []
  | cons {q : Tq} {c : V} {u : Value} {qs : List Tq} {cs : List V} {us : List Value} : TqV K q c u → TqVs K qs cs us → TqVs K (q :: qs) (c :: cs) (u :: us)
section
variable {K : Frag} {mg : Str → Option Value} {tb : ExTab}
theorem TqV.cls {q : Tq} {c : V} {u : Value} (h : TqV K q c u) : ClsV c u := by
  cases h with
  | ty t => exact .ty _
  | own h => exact .own _
  | exc lk => exact .ty _
theorem TqVs.cls : ∀ {qs : List Tq} {cs : List V} {us : List Value}, TqVs K qs cs us → Paired ClsV cs us
  | _, _, _, .nil => .nil
  | _, _, _, .cons h r => .cons h.cls r.cls
theorem TqVs.len : ∀ {qs : List Tq} {cs : List V} {us : List Value}, TqVs K qs cs us → cs.length = qs.length
  | _, _, _, .nil => rfl
  | _, _, _, .cons _ r => by simp [r.len]
theorem kit_e (X : Exs K mg tb) {nm : Str} {lk : Bool} {fs : List Str} {C : Addr} (hl : tb.lookup nm = some (lk, fs)) (hC : exCls K nm = some C) (T : ErrAt K mg C lk nm fs) {q : Tq} {c : V} {u : Value} (ok : okQ tb q = true) (h : TqV K q c u) :
    PySem.W.kitOne K (.ref C) u = some (q.hitE nm lk) := by
  cases h with
  | ty t =>
    have e := T.kitT (x := t.nm) (by cases t <;> decide)
    rw [e]; cases t <;> cases lk <;> rfl
  | @own m D hD =>
    refine kitO (X.flat nm m C D (lookup_has hl) ok hC hD) fun e => ?_
    subst e
    have e1 := X.flat nm nm C C (lookup_has hl) (lookup_has hl) hC hC
    have e2 := X.flat nm m C C (lookup_has hl) ok hC hD
    rw [e1] at e2
    have e3 := Option.some.inj e2
    show (m == nm) = true
    rw [← e3]; simp
  | exc b =>
    have e := T.kitT (x := bT b) (by cases b <;> decide)
    rw [e]; cases b <;> cases lk <;> rfl
theorem kit_d (X : Exs K mg tb) {t : Ty} {q : Tq} {c : V} {u : Value} (ok : okQ tb q = true) (h : TqV K q c u) : PySem.W.kitOne K (.type t.nm) u = some (q.hitD t) := by
  cases h with
  | ty t2 => exact kit_is K t t2
  | @own m D hD =>
    obtain ⟨lk, fs, hl⟩ := has_lookup (tb := tb) ok
    obtain ⟨C, h1, T⟩ := X.at m lk fs hl
    rw [hD] at h1; cases h1
    exact T.kitP
  | exc b => refine kit_ty ?_; cases t <;> cases b <;> decide +kernel
theorem kit_list {t : Value} {f : Tq → Bool} : ∀ {qs : List Tq} {cs : List V} {us : List Value}, TqVs K qs cs us → (∀ q ∈ qs, ∀ c u, TqV K q c u → PySem.W.kitOne K t u = some (f q)) → PySem.W.kitAny K t us = some (qs.any f)
  | _, _, _, .nil, _ => rfl
  | _, _, _, .cons (q := q) h r, H => kitAny_cons (H q List.mem_cons_self _ _ h) (fun e => by rw [kit_list r fun q hq => H q (List.mem_cons_of_mem _ hq)]; simp [e]) fun e => by simp [e]
/-- one class -/
def ruIsC1 (K : Frag) (q : Tq) : RuL := fun xs H Q => match xs with | [x] => ∀ c u, TqV K q c u → rIsC K [x, c] H Q | _ => False
/-- several -/
def ruIsCT (K : Frag) (qs : List Tq) : RuL := fun xs H Q => match xs with
  | [x] => ∀ cs us, TqVs K qs cs us → cs.length ≤ sizeLine ∧ ∀ p, H p = none → rIsCT K [x, .ref p] (upd H p (.tup cs)) Q
  | _ => False
theorem er_of (X : Exs K mg tb) {O : Addr → Prop} {H : Hp} {x : V} {nm : Str} {ns : List Str} {ds : List D} {lk : Bool} {fs : List Str} (hl : tb.lookup nm = some (lk, fs)) (h : ArgR O K H x (.err nm ns ds)) : ∃ C, exCls K nm = some C ∧ ErrAt K mg C lk nm fs ∧ KitV K H x (.ref C) := by
  rcases h with h | ⟨_, _, _, _, e, _⟩
  · cases h with
    | err t r =>
      obtain ⟨C, d, h1, h2, h3, h4, h5⟩ := t
      obtain ⟨C', g1, T⟩ := X.at nm lk fs hl
      rw [h1] at g1; cases g1
      refine ⟨C, h1, T, .er h3 ?_ T⟩
      rcases h5 with ⟨_, h5⟩ | ⟨da, e, _, g⟩
      · exact .inl h5
      · exact .inr ⟨da, _, e, g⟩
  · cases e
theorem pr_isC1 (X : Exs K mg tb) {q : Tq} (ok : okQ tb q = true) : PrOk K (ruIsC1 K q) (gIsC tb [q]) := by
  intro O H xs ds r Q out hr hg k
  unfold gIsC at hg
  split at hg
  · rename_i nm ns es
    obtain ⟨x, rfl, h1⟩ := hr.one
    split at hg
    · rename_i r' hl
      obtain ⟨lk, fs⟩ := r'
      cases hg
      obtain ⟨C, hC, T, kv⟩ := er_of X hl h1
      refine fun c u hq => ⟨x, c, _, u, q.hitE nm lk, rfl, hq.cls, kv, kit_e X hl hC T ok hq, ?_⟩
      have e : [q].any (Tq.hitE nm lk) = q.hitE nm lk := by simp
      dsimp only at k
      rw [e] at k
      exact k _ _ (prSc (.bl _))
    · cases hg
  · rename_i d _
    obtain ⟨x, rfl, h1⟩ := hr.one
    obtain ⟨hp, rfl⟩ := gd_some hg
    refine fun c u hq => ⟨x, c, _, u, q.hitD d.ty, rfl, hq.cls, .pl (h1.ty hp), kit_d X ok hq, ?_⟩
    have e : [q].any (Tq.hitD d.ty) = q.hitD d.ty := by simp
    rw [e] at k
    exact k _ _ (prSc (.bl _))
  · cases hg
theorem KitV.up {H H' : Hp} {x : V} {t : Value} (k2 : ∀ a, H a ≠ none → H' a = H a) (h : KitV K H x t) (hp : ∀ {x t}, TyX K H x t → TyX K H' x t) : KitV K H' x t := by
  cases h with
  | pl h => exact .pl (hp h)
  | @er a C d mg lk nm fs h hd T =>
    refine .er ((k2 a (by rw [h]; exact fun z => nomatch z)).trans h) ?_ T
    rcases hd with hd | ⟨da, gs, e, g⟩
    · exact .inl hd
    · exact .inr ⟨da, gs, e, (k2 da (by rw [g]; exact fun z => nomatch z)).trans g⟩
theorem pr_isCT (X : Exs K mg tb) {qs : List Tq} (hl : qs.length ≤ 100) (ok : ∀ q ∈ qs, okQ tb q = true) : PrOk K (ruIsCT K qs) (gIsC tb qs) := by
  intro O H xs ds r Q out hr hg k
  have up : ∀ (cs : List V) (p : Addr), H p = none → ∀ a, H a ≠ none → upd H p (.tup cs) a = H a := fun cs p hp a n => upd_ne fun z => n (z ▸ hp)
  have sz : ∀ {cs us}, TqVs K qs cs us → cs.length ≤ sizeLine := fun hq => by rw [hq.len, lim_eq]; show qs.length ≤ 16777216; omega
  unfold gIsC at hg
  split at hg
  · rename_i nm ns es
    obtain ⟨x, rfl, h1⟩ := hr.one
    split at hg
    · rename_i r' hk
      obtain ⟨lk, fs⟩ := r'
      cases hg
      obtain ⟨C, hC, T, kv⟩ := er_of X hk h1
      refine fun cs us hq => ⟨sz hq, fun p hp => ?_⟩
      have k2 := up cs p hp
      obtain ⟨_, _, _, kv2⟩ := er_of X hk (h1.keepN (Keep.new (u := .tup cs) hp) k2)
      rename_i C2 hC2 _
      rw [hC] at hC2; cases hC2
      exact ⟨x, p, cs, _, us, _, rfl, upd_same, hq.cls, kv2, kit_list hq fun q hm c u z => kit_e X hk hC T (ok q hm) z, k _ _ ⟨k2, .bl _, fun z => nomatch z⟩⟩
    · cases hg
  · rename_i d _
    obtain ⟨x, rfl, h1⟩ := hr.one
    obtain ⟨hpl, rfl⟩ := gd_some hg
    refine fun cs us hq => ⟨sz hq, fun p hp => ?_⟩
    have k2 := up cs p hp
    have h2 := h1.keepN (Keep.new (u := .tup cs) hp) k2
    exact ⟨x, p, cs, _, us, _, rfl, upd_same, hq.cls, .pl (h2.ty hpl), kit_list hq fun q hm c u z => kit_d X (ok q hm) z, k _ _ ⟨k2, .bl _, fun z => nomatch z⟩⟩
  · cases hg
/-! a field of an error -/
def gAttr (tb : ExTab) (f : Str) : List D → Option R
  | [.err nm ns ds] => match tb.lookup nm with
    | some r => match r.2.contains f, (ns.zip ds).lookup f with
      | true, some d => some ⟨d, false⟩
      | _, _ => none
    | none => none
  | _ => none
def ruAttr (K : Frag) (f : Str) : RuL := fun xs H Q => match xs with
  | [x] => ∃ (a C da : Addr) (gs : List (Str × V)) (v : V) (mg : Str → Option Value) (lk : Bool) (nm : Str) (fs : List Str), x = .ref a ∧ H a = some (exoV a C (some da)) ∧ H da = some (.xd gs) ∧ gs.lookup f = some v ∧ ErrAt K mg C lk nm fs ∧ f ∈ fs ∧ Q v H
  | _ => False
theorem reps_lookup {O : Addr → Prop} {H : Hp} {f : Str} : ∀ {ns : List Str} {xs : List V} {ds : List D} {d : D}, Reps O K H xs ds → (ns.zip ds).lookup f = some d → ∃ v, (ns.zip xs).lookup f = some v ∧ Rep O K H v d
  | [], xs, ds, d, h, e => by simp at e
  | n :: ns, _, _, d, .nil, e => by simp at e
  | n :: ns, _, _, d, .cons (x := x) (d := d0) h r, e => by
    simp only [List.zip_cons_cons, List.lookup_cons] at e ⊢
    split at e
    · cases e; exact ⟨x, rfl, h⟩
    · exact reps_lookup r e
theorem pr_attr (X : Exs K mg tb) {f : Str} : PrOk K (ruAttr K f) (gAttr tb f) := by
  intro O H xs ds r Q out hr hg k
  unfold gAttr at hg
  split at hg
  · rename_i nm ns es
    obtain ⟨x, rfl, h1⟩ := hr.one
    split at hg
    · rename_i r' hk
      obtain ⟨lk, fs⟩ := r'
      split at hg
      · rename_i d hc hd
        cases hg
        rcases h1 with h1 | ⟨_, _, _, _, e, _⟩
        · cases h1 with
          | err t rs =>
            obtain ⟨C, dd, c1, c2, c3, c4, c5⟩ := t
            obtain ⟨v, e1, rv⟩ := reps_lookup rs hd
            obtain ⟨C', g1, T⟩ := X.at nm lk fs hk
            rw [c1] at g1; cases g1
            rcases c5 with ⟨e, _⟩ | ⟨da, rfl, _, g⟩
            · rw [e] at hd; simp at hd
            · exact ⟨_, C, da, _, v, mg, lk, nm, fs, rfl, c3, g, e1, T, by simpa using hc, k _ _ (prSc rv)⟩
        · cases e
      · cases hg
    · cases hg
  · cases hg
end
end L3

/-! E14: from the text to evaluations. -/
namespace L3
open PySem L2

/-- a def that may be called (mu: which parameters' lists it may change): its number, its parameters, the ways with keywords: how many by place, the keywords, where each parameter's value stands among the written ones -/
structure Fi where
  id : Nat
  ps : List Str
  kws : List (Nat × List Str × List Nat)
  mu : List Bool
structure Cc where
  sc : Scope
  N : List Str
  fnB : Str → Bool
  bl : List Str
  fns : List (Str × Fi)
  cal : Nat → Ev R
  exs : ExTab
  top : Bool
def vis (sc : Scope) (x : Str) : Bool := match sc.names.lookup x with
  | some .local => true
  | some .cell => true
  | some .free => true
  | _ => false
def idx (x : Str) : List Str → Option Nat
  | [] => none
  | y :: ys => match decide (y = x) with
    | true => some 0
    | false => (idx x ys).map (· + 1)
def slotOf (c : Cc) (x : Str) : Option Nat := match vis c.sc x && !(x == ("__debug__" : Str)) && !(x == ("__classdict__" : Str)) with
  | true => idx x c.N
  | false => none
/-- a name that may be stored to -/
def locOf (c : Cc) (x : Str) : Option Nat := match c.sc.names.lookup x with
  | some .local => idx x c.N
  | some .cell => match c.fnB x with
    | true => idx x c.N
    | false => none
  | _ => none
def glob (c : Cc) (x : Str) : Bool := match c.sc.names.lookup x with
  | some .globalImplicit => !(x == ("__debug__" : Str))
  | _ => false
def isBl (c : Cc) (x y : Str) : Bool := decide (x = y) && glob c x && c.bl.contains x
theorem idx_of {x : Str} : ∀ {N : List Str} {i : Nat}, idx x N = some i → N[i]? = some x
  | y :: ys, i, h => by
    unfold idx at h
    split at h
    · rename_i e
      cases h
      exact congrArg some (of_decide_eq_true e)
    · simp only [Option.map_eq_some_iff] at h
      obtain ⟨j, h1, rfl⟩ := h
      simpa using idx_of h1
/-- the context is what the compilation takes it for, be an error handled there or not -/
structure GoodH (c : Cc) (X : Cx) : Prop where
  sc : X.env.scope = c.sc
  kd : c.sc.kind = .function
  N : X.N = c.N
  nd : X.N.Nodup
  fn : X.fn = c.fnB
  blt : ∀ x, c.bl.contains x = true → X.mg x = none
  exs : Exs X.K X.mg c.exs
/-- .. and none is handled -/
structure Good (c : Cc) (k : Nat) (X : Cx) (M : XM) (W : WX) : Prop extends GoodH c X where
  calm : X.calm = true
  room : Room k X.A
  tr : c.top = true → X.stack = X.env :: X.outer ∧ X.env.frame = some X.env.locals
  pass : PassesOwn (model X.prog X.w) X.A X.env X.xe
  takes : Takes X W
  fns : ∀ x fi, c.fns.lookup x = some fi → ∃ f fd, FnOk X.prog X.w X.K X.mg X.base (L2.CX X.prog X.w) k f fd fi.ps (spF X.K M (c.cal fi.id)) ∧ X.mg x = some (.ref f) ∧ PySem.W.keepIn X.K (.ref f) = true ∧ Binds X.K fd fi.ps [] ∧
    ∀ q ∈ fi.kws, ∀ (s : Shared) (us ws : List Value), X.K.In s.heap → us.length = q.1 → ws.length = q.2.1.length → ∃ gs, permL (us ++ ws) q.2.2 = some gs ∧ BindsTo s fd ⟨us, q.2.1.zip ws⟩ (fi.ps.zip gs)
section
variable {c : Cc} {k : Nat} {X : Cx} {M : XM} {W : WX}
theorem GoodH.vis (G : GoodH c X) {x : Str} {i : Nat} (h : slotOf c x = some i) : X.N[i]? = some x ∧ Vis X.env.scope x ∧ (x == ("__debug__" : Str)) = false ∧ (x == ("__classdict__" : Str)) = false := by
  unfold slotOf at h
  split at h
  · rename_i e
    simp only [Bool.and_eq_true, Bool.not_eq_true'] at e
    refine ⟨by rw [G.N]; exact idx_of h, ?_, e.1.2, e.2⟩
    rw [G.sc]
    have e1 := e.1.1
    unfold L3.vis at e1
    split at e1
    · exact .inl (by assumption)
    · exact .inr (.inl (by assumption))
    · exact .inr (.inr (by assumption))
    · cases e1
  · cases h
theorem GoodH.loc (G : GoodH c X) {x : Str} {i : Nat} (h : locOf c x = some i) : X.N[i]? = some x ∧ Loc X.env.scope x ∧ (X.fn x = true ∨ X.env.scope.names.lookup x = some .local) := by
  unfold locOf at h
  rw [G.N, G.sc, G.fn]
  split at h
  · rename_i e
    exact ⟨idx_of h, .inl e, .inr e⟩
  · rename_i e
    split at h
    · rename_i e2
      exact ⟨idx_of h, .inr e, .inl e2⟩
    · cases h
  · cases h
theorem GoodH.gl (G : GoodH c X) {x : Str} (h : glob c x = true) : Gl X x ∧ (x == ("__debug__" : Str)) = false := by
  unfold glob at h
  split at h
  · rename_i e
    refine ⟨?_, by simpa using h⟩
    show X.env.scope.names.lookup x = some .globalImplicit
    rw [G.sc]; exact e
  · cases h
theorem GoodH.bl (G : GoodH c X) {x y : Str} (h : isBl c x y = true) : x = y ∧ Gl X x ∧ X.mg x = none ∧ (x == ("__debug__" : Str)) = false := by
  unfold isBl at h
  simp only [Bool.and_eq_true, decide_eq_true_eq] at h
  obtain ⟨g1, g2⟩ := G.gl h.1.2
  exact ⟨h.1.1, g1, G.blt x h.2, g2⟩
end

/-! ### the parts of expressions -/
/-- expressions: rX compiles one -/
abbrev RX := Cc → Expr → Option (Ev R)
abbrev RT := Cc → Expr → Option (Ev Bool)
def OkX (rX : RX) : Prop := ∀ c e f, rX c e = some f → ∀ k X M W, Good c k X M W → PE X e (LX X.K M W f)
def OkT (rT : RT) : Prop := ∀ c e f, rT c e = some f → ∀ k X M W, Good c k X M W → PT X e (LT X.K M W f)
/-- an operand -/
def cA (rX : RX) (c : Cc) (e : Expr) : Option SA := match noStar e with
  | false => none
  | true => match e with
    | .Name x _ => match slotOf c x with
      | some i => some (.late i)
      | none => (rX c e).map .e
    | _ => (rX c e).map .e
def cV (rX : RX) (c : Cc) (e : Expr) : Option SA := match noStar e with
  | false => none
  | true => (rX c e).map .e
def cL (f : Expr → Option SA) : List Expr → Option (List SA)
  | [] => some []
  | e :: es => match f e, cL f es with
    | some s, some ss => some (s :: ss)
    | _, _ => none
/-- the arguments of a call: what may be changed is lent, the rest are values -/
def cAs (rX : RX) (c : Cc) : List Bool → List Expr → Option (List SA)
  | _, [] => some []
  | [], e :: es => match cV rX c e, cAs rX c [] es with
    | some s, some ss => some (s :: ss)
    | _, _ => none
  | b :: bs, e :: es => match (match b with | true => cA rX c e | false => cV rX c e), cAs rX c bs es with
    | some s, some ss => some (s :: ss)
    | _, _ => none
section
variable {c : Cc} {k : Nat} {X : Cx} {M : XM} {W : WX} {rX : RX}
theorem cA_ok (ok : OkX rX) (G : Good c k X M W) {e : Expr} {s : SA} (h : cA rX c e = some s) : PArg X M W e s ∧ noStar e = true := by
  unfold cA at h
  split at h
  · cases h
  rename_i hs
  refine ⟨?_, hs⟩
  split at h
  · split at h
    · rename_i i ei
      cases h
      obtain ⟨h1, h2, h3, h4⟩ := G.vis ei
      exact x_late h1 h2 h3 h4
    · simp only [Option.map_eq_some_iff] at h
      obtain ⟨f, h1, rfl⟩ := h
      exact ok _ _ _ h1 _ _ _ _ G
  · simp only [Option.map_eq_some_iff] at h
    obtain ⟨f, h1, rfl⟩ := h
    exact ok _ _ _ h1 _ _ _ _ G
theorem cV_ok (ok : OkX rX) (G : Good c k X M W) {e : Expr} {s : SA} (h : cV rX c e = some s) : (PArg X M W e s ∧ noStar e = true) ∧ ∃ f, s = .e f := by
  unfold cV at h
  split at h
  · cases h
  rename_i hs
  simp only [Option.map_eq_some_iff] at h
  obtain ⟨f, h1, rfl⟩ := h
  exact ⟨⟨ok _ _ _ h1 _ _ _ _ G, hs⟩, f, rfl⟩
theorem cL_ok {f : Expr → Option SA} (ok : ∀ e s, f e = some s → PArg X M W e s ∧ noStar e = true) : ∀ {es : List Expr} {ss : List SA}, cL f es = some ss → PA X es (LAs X.K M W ss) ∧ es.all noStar = true ∧ es.length = ss.length
  | [], ss, h => by cases h; exact ⟨xa_nil, rfl, rfl⟩
  | e :: es, ss, h => by
    unfold cL at h
    split at h
    · rename_i s ss' h1 h2
      cases h
      obtain ⟨g1, g2⟩ := ok e s h1
      obtain ⟨g3, g4, g5⟩ := cL_ok ok h2
      exact ⟨xa_cons g1 g3 (star_cons g2), by simp [g2, g4], by simp [g5]⟩
    · cases h
theorem cAs_ok (ok : OkX rX) (G : Good c k X M W) : ∀ {bs : List Bool} {es : List Expr} {ss : List SA}, cAs rX c bs es = some ss → PA X es (LAs X.K M W ss) ∧ es.all noStar = true ∧ es.length = ss.length
  | _, [], ss, h => by
    simp only [cAs, Option.some.injEq] at h
    subst h
    exact ⟨xa_nil, rfl, rfl⟩
  | [], e :: es, ss, h => by
    unfold cAs at h
    split at h
    · rename_i s ss' h1 h2
      cases h
      obtain ⟨⟨g1, g2⟩, _⟩ := cV_ok (M := M) (W := W) ok G h1
      obtain ⟨g3, g4, g5⟩ := cAs_ok ok G h2
      exact ⟨xa_cons g1 g3 (star_cons g2), by simp [g2, g4], by simp [g5]⟩
    · cases h
  | b :: bs, e :: es, ss, h => by
    unfold cAs at h
    split at h
    · rename_i s ss' h1 h2
      cases h
      have g : PArg X M W e s ∧ noStar e = true := by
        cases b with
        | true => exact cA_ok ok G h1
        | false => exact (cV_ok ok G h1).1
      obtain ⟨g3, g4, g5⟩ := cAs_ok ok G h2
      exact ⟨xa_cons g.1 g3 (star_cons g.2), by simp [g.2, g4], by simp [g5]⟩
    · cases h
theorem cLV_ok (ok : OkX rX) (G : Good c k X M W) : ∀ {es : List Expr} {ss : List SA}, cL (cV rX c) es = some ss → allE ss = true
  | [], ss, h => by cases h; rfl
  | e :: es, ss, h => by
    unfold cL at h
    split at h
    · rename_i s ss' h1 h2
      cases h
      obtain ⟨_, f, rfl⟩ := cV_ok ok G h1
      show allE ss' = true
      exact cLV_ok ok G h2
    · cases h
end

/-! operators -/
def cBin (op : Operator) : Option (List D → Option R) := match op with
  | .Add => some gAdd
  | .Sub => some L3.gSub
  | .Mult => some gMul
  | .FloorDiv => some gFdiv
  | .Mod => some gMod
  | .Pow => some gPow
  | _ => none
theorem cBin_ok {X : Cx} {op : Operator} {g : List D → Option R} (h : cBin op = some g) : ∃ r, OpR X (binaryOp op) r ∧ PrOk X.K (ru2 r) g := by
  cases op <;> simp only [cBin, Option.some.injEq, reduceCtorEq] at h <;> subst h
  · exact ⟨_, op_addA, pr_add⟩
  · exact ⟨_, op_sub, pr_sub⟩
  · exact ⟨_, op_mulA, pr_mul⟩
  · exact ⟨_, op_mod, pr_mod⟩
  · exact ⟨_, op_pow, pr_pow⟩
  · exact ⟨_, op_fdivW, pr_fdiv⟩
def cCmp (op : CmpOp) : Option (List D → Option R) := match op with
  | .Eq => some (gEq id)
  | .NotEq => some (gEq not)
  | .Lt => some (gCmp fun i j => decide (i < j))
  | .LtE => some (gCmp fun i j => decide (i ≤ j))
  | .Gt => some (gCmp fun i j => decide (j < i))
  | .GtE => some (gCmp fun i j => decide (j ≤ i))
  | .In => some (gIn id)
  | .NotIn => some (gIn not)
  | .Is => some (gIsN id)
  | .IsNot => some (gIsN not)
theorem cCmp_ok {X : Cx} {k : Nat} {op : CmpOp} {g : List D → Option R} (hr : Room k X.A) (h : cCmp op = some g) : ∃ r, OpR X (compareOp op) r ∧ PrOk X.K (ru2 r) g := by
  have u1 : X.A.units + 65 < cLine := by have := hr.un; omega
  cases op <;> simp only [cCmp, Option.some.injEq] at h <;> subst h
  · exact ⟨_, op_eqP hr.units, pr_eq⟩
  · exact ⟨_, op_neP hr.units, pr_eq⟩
  · exact ⟨_, op_lt, pr_cmp⟩
  · exact ⟨_, op_le, pr_cmp⟩
  · exact ⟨_, op_gt, pr_cmp⟩
  · exact ⟨_, op_ge, pr_cmp⟩
  · exact ⟨_, op_isN, pr_isN⟩
  · exact ⟨_, op_notN, pr_notN⟩
  · exact ⟨_, op_inP u1, pr_in⟩
  · exact ⟨_, op_notInP u1, pr_in⟩
def notSet : Expr → Bool
  | .Set _ _ _ => false
  | _ => true
theorem notSet_marks {op : CmpOp} {e : Expr} (h : notSet e = true) : behindInMarks op e = false := by
  cases e <;> first | rfl | cases h
theorem notSet_fold {e : Expr} {env : Env} (h : notSet e = true) : ∀ x, foldedSetIterable e env x = pure x := by
  intro x
  cases e <;> first | rfl | cases h
def notSlice : Expr → Bool
  | .Slice _ _ _ _ => false
  | _ => true
theorem plainIx {e : Expr} (h : notSlice e = true) : PlainIx e := by
  intro o i
  cases e <;> first | rfl | cases h
/-- what a test of the expression is that is no comparison, no and, or, not, no choice -/
def plainT : Expr → Bool
  | .UnaryOp .Not _ _ => false
  | .BoolOp _ _ _ => false
  | .IfExp _ _ _ _ => false
  | .Compare _ _ _ _ => false
  | _ => true
theorem plainT_ok {a : Expr} {env : Env} (h : plainT a = true) : ∀ whole, isTrue a env whole = (do let v ← whole; standAt a.pos; holding [v] (truthy v)) := by
  intro whole
  cases a with
  | UnaryOp op x p => cases op <;> first | rfl | cases h
  | BoolOp _ _ _ => cases h
  | IfExp _ _ _ _ => cases h
  | Compare _ _ _ _ => cases h
  | _ => rfl

/-! built-in functions -/
inductive Bi where
  | fn (id : String) | ty (T : String)
/-- the built-in called x: its object, its operation -/
def biG (x : Str) : Option (Bi × (List D → Option R)) :=
  if x = "len" then some (.fn "len", gLen)
  else if x = "abs" then some (.fn "abs", gAbs)
  else if x = "int" then some (.ty "int", gInt)
  else if x = "list" then some (.ty "list", gList)
  else if x = "tuple" then some (.ty "tuple", gTuple)
  else if x = "sum" then some (.fn "sum", gSum)
  else if x = "all" then some (.fn "all", gAll)
  else if x = "any" then some (.fn "any", gAny)
  else if x = "max" then some (.fn "max", gMax)
  else if x = "min" then some (.fn "min", gMin)
  else if x = "sorted" then some (.fn "sorted", gSorted)
  else none
theorem biG_ok {X : Cx} {x : Str} {b : Bi} {g : List D → Option R} (hc : X.calm = true) (h : biG x = some (b, g)) :
    x ≠ "__name__" ∧ ((∃ id r, b = .fn id ∧ bootBuiltins x = some (.builtin id) ∧ CallR X (.builtin id) r ∧ PrOk X.K r g) ∨ (∃ T r, b = .ty T ∧ bootBuiltins x = some (.type T) ∧ CallR X (.type T) r ∧ PrOk X.K r g)) := by
  unfold biG at h
  split at h
  · rename_i e; cases h; subst e
    exact ⟨by decide, .inl ⟨_, _, rfl, by decide +kernel, call_lenA, pr_len⟩⟩
  split at h
  · rename_i e; cases h; subst e
    exact ⟨by decide, .inl ⟨_, _, rfl, by decide +kernel, call_abs, pr_abs⟩⟩
  split at h
  · rename_i e; cases h; subst e
    exact ⟨by decide, .inr ⟨_, _, rfl, by decide +kernel, call_int1, pr_int⟩⟩
  split at h
  · rename_i e; cases h; subst e
    exact ⟨by decide, .inr ⟨_, _, rfl, by decide +kernel, call_list_of, pr_list⟩⟩
  split at h
  · rename_i e; cases h; subst e
    exact ⟨by decide, .inr ⟨_, _, rfl, by decide +kernel, call_tuple_of, pr_tuple⟩⟩
  split at h
  · rename_i e; cases h; subst e
    exact ⟨by decide, .inl ⟨_, _, rfl, by decide +kernel, cr_sum hc, pr_sum⟩⟩
  split at h
  · rename_i e; cases h; subst e
    exact ⟨by decide, .inl ⟨_, _, rfl, by decide +kernel, cr_all hc, pr_all⟩⟩
  split at h
  · rename_i e; cases h; subst e
    exact ⟨by decide, .inl ⟨_, _, rfl, by decide +kernel, cr_any hc, pr_any⟩⟩
  split at h
  · rename_i e; cases h; subst e
    exact ⟨by decide, .inl ⟨_, _, rfl, by decide +kernel, CallR.or (call_max2 hc) (cr_max hc), pr_max⟩⟩
  split at h
  · rename_i e; cases h; subst e
    exact ⟨by decide, .inl ⟨_, _, rfl, by decide +kernel, CallR.or (call_min2 hc) (cr_min hc), pr_min⟩⟩
  split at h
  · rename_i e; cases h; subst e
    exact ⟨by decide, .inl ⟨_, _, rfl, by decide +kernel, call_sortedA, pr_sorted⟩⟩
  cases h
end L3

/-! E15: the compilation of expressions. -/
namespace L3
open PySem L2

/-! calls of the program's own defs -/
section
variable {X : Cx} {CX : CXT} {k : Nat} {f : Addr} {fd : FuncData} {ps ks : List Str} {sp : Sp} {E : St → XK} {x : Str} {p pos : Pos} {e : Expr} {es : List Expr} {kws : List Keyword} {t tk : TA}
theorem pe_call0S (F : FnOk X.prog X.w X.K X.mg X.base CX k f fd ps sp) (hr : Room k X.A) (hg : Gl X x) (hm : X.mg x = some (.ref f)) (hk : PySem.W.keepIn X.K (.ref f) = true) (hb : Binds X.K fd ps []) (hx : ∀ σ, PassesAt CX X σ (E σ))
    (hdb : (x == ("__debug__" : Str)) = false) : PE X (.Call (.Name x p) [] [] pos) (tCallS sp E tNil) := by
  refine ⟨fun pins s σ H Q I h => ?_⟩
  refine wpAny_Call_Name_kw (ld_glob I hg hm ?_ hdb)
  exact PySem.W.callWith_K0 I.kIn hk (run_fnS (us := []) F hr hb (hx σ) I .nil h)
theorem run_fnkS {pins : List (Addr × Obj)} {σ : St} {H : Hp} {s : Shared} {Q : VK} {us ws gs : List Value} {vs : List V} (F : FnOk X.prog X.w X.K X.mg X.base CX k f fd ps sp) (hr : Room k X.A) (hb : BindsTo s fd ⟨us, ks.zip ws⟩ (ps.zip gs)) (hx : PassesAt CX X σ (E σ))
    (I : Inv X pins σ H s) (r : Vals vs gs) (h : sp vs H Q (E σ)) : wpAny (model X.prog X.w) X.A (call (.ref f) us (ks.zip ws)) (EP X pins σ Q) X.xe s := by
  refine wpAny_call (codeAny_mono (F.run X.A X.stack s H ⟨us, ks.zip ws⟩ gs vs Q (E σ) hr I.env0 hb r h) fun r s' hq => ?_)
  cases r with
  | error e => exact hx pins H s e s' I hq
  | ok fl =>
    cases fl with
    | ret u => exact I.after hq
    | next => exact False.elim hq
    | brk => exact False.elim hq
    | cont => exact False.elim hq
theorem Vals.perm {vs : List V} {us : List Value} (r : Vals vs us) : ∀ {is : List Nat} {vs' : List V} {us' : List Value}, permL vs is = some vs' → permL us is = some us' → Vals vs' us'
  | [], _, _, e1, e2 => by cases e1; cases e2; exact .nil
  | i :: is, _, _, e1, e2 => by
    simp only [permL] at e1 e2
    split at e1
    · rename_i v ys g1 g2
      cases e1
      split at e2
      · rename_i u zs g3 g4
        cases e2
        obtain ⟨u', h1, h2⟩ := r.get g1
        rw [g3] at h1; cases h1
        exact .cons h2 (Vals.perm r g2 g4)
      · cases e2
    · cases e1
/-- f(e, .., k = v, ..): the reading of the written values, then the permuted ones -/
def tCallP (sp : Sp) (perm : List Nat) (E : St → XK) (n m : Nat) (t tk : TA) : TE := fun σ H Q => t σ H fun vs H1 => tk σ H1 fun zs H2 => vs.length = n ∧ zs.length = m ∧ ∃ vs', permL (vs ++ zs) perm = some vs' ∧ sp vs' H2 Q (E σ)
theorem pe_callKS {n m : Nat} {perm : List Nat} (F : FnOk X.prog X.w X.K X.mg X.base CX k f fd ps sp) (hr : Room k X.A) (hg : Gl X x) (hm : X.mg x = some (.ref f)) (hk : PySem.W.keepIn X.K (.ref f) = true)
    (hb : ∀ (s : Shared) (us ws : List Value), X.K.In s.heap → us.length = n → ws.length = m → ∃ gs, permL (us ++ ws) perm = some gs ∧ BindsTo s fd ⟨us, ks.zip ws⟩ (ps.zip gs)) (hx : ∀ σ, PassesAt CX X σ (E σ))
    (ha : PA X (e :: es) t) (hkw : PK X kws tk) (hall : (backToKw pos (keywordEach kws X.env)).all (·.1.isSome) = true) (hks : (backToKw pos (keywordEach kws X.env)).filterMap (·.1) = ks) (hdb : (x == ("__debug__" : Str)) = false)
    (he : starEach (e :: es) X.env = (false, eval e X.env) :: starEach es X.env) (hpl : ((backTo pos (starEach (e :: es) X.env)).any (·.1) || (backToKw pos (keywordEach kws X.env)).any (·.1.isNone)) = false) :
    PE X (.Call (.Name x p) (e :: es) kws pos) (tCallP sp perm E n m t tk) := by
  refine ⟨fun pins s σ H Q I h => ?_⟩
  refine wpAny_Call_Name_kw (ld_glob I hg hm ?_ hdb)
  refine PySem.W.callWith_KW (h₀ := X.base) I.ok.mod.kin hk hall (thn (ha.run pos pins s σ H _ I h) fun us s1 ⟨vs, H1, I1, r, q⟩ => ?_) hpl he
  refine thn (hkw.run pos pins s1 σ H1 _ I1 q) fun ws s2 ⟨zs, H2, I2, rz, l1, l2, vs', hp, q2⟩ => ⟨I2.kIn, ?_⟩
  rw [hks]
  obtain ⟨gs, hg1, hg2⟩ := hb s2 us ws I2.kIn (by rw [← r.length]; exact l1) (by rw [← rz.length]; exact l2)
  exact run_fnkS F hr hg2 (hx σ) I2 (Vals.perm (r.append rz) hp hg1) q2
theorem pe_callK0S {m : Nat} {perm : List Nat} (F : FnOk X.prog X.w X.K X.mg X.base CX k f fd ps sp) (hr : Room k X.A) (hg : Gl X x) (hm : X.mg x = some (.ref f)) (hk : PySem.W.keepIn X.K (.ref f) = true)
    (hb : ∀ (s : Shared) (us ws : List Value), X.K.In s.heap → us.length = 0 → ws.length = m → ∃ gs, permL (us ++ ws) perm = some gs ∧ BindsTo s fd ⟨us, ks.zip ws⟩ (ps.zip gs)) (hx : ∀ σ, PassesAt CX X σ (E σ))
    (hkw : PK X kws tk) (hall : (backToKw pos (keywordEach kws X.env)).all (·.1.isSome) = true) (hks : (backToKw pos (keywordEach kws X.env)).filterMap (·.1) = ks) (hdb : (x == ("__debug__" : Str)) = false)
    (hpl : ((backTo pos (starEach [] X.env)).any (·.1) || (backToKw pos (keywordEach kws X.env)).any (·.1.isNone)) = false) :
    PE X (.Call (.Name x p) [] kws pos) (tCallP sp perm E 0 m tNil tk) := by
  refine ⟨fun pins s σ H Q I h => ?_⟩
  refine wpAny_Call_Name_kw (ld_glob I hg hm ?_ hdb)
  refine PySem.W.callWith_KW0 (h₀ := X.base) I.ok.mod.kin hk hall ?_ hpl
  refine thn (hkw.run pos pins s σ H _ I h) fun ws s2 ⟨zs, H2, I2, rz, l1, l2, vs', hp, q2⟩ => ⟨I2.kIn, ?_⟩
  rw [hks]
  obtain ⟨gs, hg1, hg2⟩ := hb s2 [] ws I2.kIn rfl (by rw [← rz.length]; exact l2)
  exact run_fnkS F hr hg2 (hx σ) I2 (Vals.perm rz hp hg1) q2
end

/-- the keywords' names -/
def kwNames : List Keyword → Option (List Str)
  | [] => some []
  | ⟨some x, _, _⟩ :: ks => (kwNames ks).map (x :: ·)
  | ⟨none, _, _⟩ :: _ => none
def kwExprs : List Keyword → List Expr
  | [] => []
  | ⟨_, e, _⟩ :: ks => e :: kwExprs ks
theorem kw_ok {ks : List Str} : ∀ {kws : List Keyword} {env : Env} {pos : Pos}, kwNames kws = some ks → (backToKw pos (keywordEach kws env)).all (·.1.isSome) = true ∧ (backToKw pos (keywordEach kws env)).filterMap (·.1) = ks ∧ (backToKw pos (keywordEach kws env)).any (·.1.isNone) = false := by
  intro kws
  induction kws generalizing ks with
  | nil => intro env pos h; cases h; exact ⟨rfl, rfl, rfl⟩
  | cons q kws ih =>
    intro env pos h
    obtain ⟨nm, e, p⟩ := q
    cases nm with
    | none => cases h
    | some x =>
      simp only [kwNames, Option.map_eq_some_iff] at h
      obtain ⟨ks', h1, rfl⟩ := h
      obtain ⟨g1, g2, g3⟩ := ih (env := env) (pos := pos) h1
      refine ⟨?_, ?_, ?_⟩
      · unfold backToKw at g1 ⊢
        simp only [keywordEach, List.map_cons, List.all_cons, Option.isSome_some, Bool.true_and]
        exact g1
      · unfold backToKw at g2 ⊢
        simp only [keywordEach, List.map_cons, List.filterMap_cons]
        rw [g2]
      · unfold backToKw at g3 ⊢
        simp only [keywordEach, List.map_cons, List.any_cons, Option.isNone_some, Bool.false_or]
        exact g3
theorem pk_of {X : Cx} {M : XM} {W : WX} : ∀ {kws : List Keyword} {ss : List SA}, (kwExprs kws).length = ss.length → (∀ (i : Nat) (e : Expr) (s : SA), (kwExprs kws)[i]? = some e → ss[i]? = some s → PArg X M W e s) → PK X kws (LAs X.K M W ss) := by
  intro kws
  induction kws with
  | nil => intro ss hl _; cases ss with
    | nil => exact pk_nil
    | cons s ss => cases hl
  | cons q kws ih =>
    intro ss hl h
    obtain ⟨nm, e, p⟩ := q
    cases ss with
    | nil => cases hl
    | cons s ss => exact pk_cons (h 0 e s rfl rfl) (ih (by simpa [kwExprs] using hl) fun i e s h1 h2 => h (i + 1) e s h1 h2)
theorem kwNames_len : ∀ {kws : List Keyword} {ks : List Str}, kwNames kws = some ks → ks.length = (kwExprs kws).length
  | [], ks, h => by cases h; rfl
  | ⟨some x, e, p⟩ :: kws, ks, h => by
    simp only [kwNames, Option.map_eq_some_iff] at h
    obtain ⟨ks', h1, rfl⟩ := h
    simp [kwExprs, kwNames_len h1]
  | ⟨none, e, p⟩ :: kws, ks, h => by cases h
theorem cL_get {f : Expr → Option SA} : ∀ {es : List Expr} {ss : List SA}, cL f es = some ss → ∀ {i : Nat} {e : Expr} {s : SA}, es[i]? = some e → ss[i]? = some s → f e = some s
  | [], ss, h, i, e, s, h1, h2 => by simp at h1
  | e0 :: es, ss, h, i, e, s, h1, h2 => by
    unfold cL at h
    split at h
    · rename_i s0 ss' g1 g2
      cases h
      cases i with
      | zero => simp at h1 h2; subst h1 h2; exact g1
      | succ i => exact cL_get g2 (by simpa using h1) (by simpa using h2)
    · cases h

/-! what is compiled, one layer -/
def cConst (v : Const) : Option D := match v with
  | .int i => some (.int i)
  | .bool b => some (.bl b)
  | .none => some .non
  | .str x => some (.str x)
  | _ => none
def tyOf (x : Str) : Option Ty := if x = "int" then some .int else if x = "bool" then some .bool else if x = "str" then some .str else if x = "list" then some .list else if x = "tuple" then some .tuple else if x = "dict" then some .dict else none
def cTys (c : Cc) : List Expr → Option (List Ty)
  | [] => some []
  | .Name x _ :: es => match isBl c x x, tyOf x, cTys c es with
    | true, some t, some ts => some (t :: ts)
    | _, _, _ => none
  | _ :: _ => none
def cOpt (rX : RX) (c : Cc) : Option Expr → Option (Option (Ev R))
  | none => some none
  | some e => (rX c e).map some
/-- one argument, no name, that may be changed -/
def oneNew : List Bool → List Expr → Option Expr
  | [true], [.Name _ _] => none
  | [true], [e] => match noStar e with
    | true => some e
    | false => none
  | _, _ => none
theorem oneNew_ok {bs : List Bool} {es : List Expr} {e : Expr} (h : oneNew bs es = some e) : es = [e] ∧ noStar e = true := by
  unfold oneNew at h
  split at h
  · cases h
  · split at h
    · rename_i hs; cases h; exact ⟨rfl, hs⟩
    · cases h
  · cases h
/-- a call by name -/
def cCall (rX : RX) (c : Cc) (x : Str) (args : List Expr) (kws : List Keyword) : Option (Ev R) := match c.fns.lookup x with
  | some fi => match glob c x, kws.isEmpty with
    | true, true => match oneNew fi.mu args with
      | some e => (rX c e).map (evCall1 (c.cal fi.id))
      | none => (cAs rX c fi.mu args).map (evCall (c.cal fi.id))
    | true, false => match kwNames kws with
      | some ks => match fi.kws.find? fun q => decide (q.1 = args.length) && decide (q.2.1 = ks) with
        | some q => match cAs rX c fi.mu args, cL (cV rX c) (kwExprs kws) with
          | some as, some bs => some (evCallK (c.cal fi.id) (as ++ bs) q.2.2)
          | _, _ => none
        | none => none
      | none => none
    | false, _ => none
  | none => match kws with
    | [] => match isBl c x x with
      | true => match biG x with
        | some (_, g) => match args with
          | [] => none
          | args => (cL (cA rX c) args).map (evPr g)
        | none => match decide (x = "isinstance"), args with
          | true, [a, .Name T _] => match cTys c [.Name T ⟨0, 0, 0, 0⟩], cA rX c a with
            | some [t], some s => some (evPr (gIsi [t]) [s])
            | _, _ => none
          | true, [a, .Tuple es _ _] => match cTys c es, cA rX c a with
            | some ts, some s => match Nat.ble ts.length 100 with
              | true => some (evPr (gIsi ts) [s])
              | false => none
            | _, _ => none
          | _, _ => none
      | false => none
    | _ => none
section
variable {c : Cc} {k : Nat} {X : Cx} {M : XM} {W : WX} {rX : RX} {p pos : Pos}
theorem tyOf_ok {x : Str} {t : Ty} (h : tyOf x = some t) : x ≠ "__name__" ∧ bootBuiltins x = some (.type t.nm) := by
  unfold tyOf at h
  split at h
  · rename_i e; cases h; subst e; exact ⟨by decide, by decide +kernel⟩
  split at h
  · rename_i e; cases h; subst e; exact ⟨by decide, by decide +kernel⟩
  split at h
  · rename_i e; cases h; subst e; exact ⟨by decide, by decide +kernel⟩
  split at h
  · rename_i e; cases h; subst e; exact ⟨by decide, by decide +kernel⟩
  split at h
  · rename_i e; cases h; subst e; exact ⟨by decide, by decide +kernel⟩
  split at h
  · rename_i e; cases h; subst e; exact ⟨by decide, by decide +kernel⟩
  cases h
/-- the reading of a list of type names: constants -/
def tTys : List Ty → TA
  | [] => tNil
  | t :: ts => tCons (tC (.ty t.nm)) (tTys ts)
theorem tTys_run {ts : List Ty} : ∀ {σ : St} {H : Hp} {Q : List V → Hp → Prop}, Q (ts.map fun t => V.ty t.nm) H → tTys ts σ H Q := by
  induction ts with
  | nil => intro σ H Q h; exact h
  | cons t ts ih => intro σ H Q h; exact ih h
theorem cTys_ok (G : Good c k X M W) : ∀ {es : List Expr} {ts : List Ty}, cTys c es = some ts → PA X es (tTys ts) ∧ es.all noStar = true
  | [], ts, h => by cases h; exact ⟨pa_nil, rfl⟩
  | e :: es, ts, h => by
    cases e with
    | Name x p =>
      simp only [cTys] at h
      split at h
      · rename_i t ts' h1 h2 h3
        cases h
        obtain ⟨_, g2, g3, g4⟩ := G.bl h1
        obtain ⟨n1, n2⟩ := tyOf_ok h2
        obtain ⟨q1, q2⟩ := cTys_ok G h3
        exact ⟨pa_cons (pe_bltn g2 g3 n2 rfl n1 g4) q1 rfl, by simp [q2, noStar]⟩
      · cases h
    | _ => cases h
theorem cCall_ok (ok : OkX rX) (G : Good c k X M W) {x : Str} {args : List Expr} {kws : List Keyword} {f : Ev R} (h : cCall rX c x args kws = some f) : PE X (.Call (.Name x p) args kws pos) (LX X.K M W f) := by
  unfold cCall at h
  split at h
  · rename_i fi hf
    obtain ⟨a, fd, F, hm, hk, hb, hkw⟩ := G.fns x fi hf
    have hx : ∀ σ, PassesAt (L2.CX X.prog X.w) X σ (WE W σ) := passAt G.takes
    split at h
    · rename_i hgl hem
      rw [List.isEmpty_iff] at hem
      subst hem
      obtain ⟨g1, g2⟩ := G.gl hgl
      split at h
      · rename_i e he
        obtain ⟨rfl, hs⟩ := oneNew_ok he
        simp only [Option.map_eq_some_iff] at h
        obtain ⟨f0, h1, rfl⟩ := h
        exact peImp (pe_callS F G.room g1 hm hk hb hx (xa_cons (sa := .e f0) (ok _ _ _ h1 _ _ _ _ G) xa_nil (star_cons hs)) g2 (star_cons hs) (star_any (by rfl))) fun σ H Q q => call1_ok q
      simp only [Option.map_eq_some_iff] at h
      obtain ⟨ss, h1, rfl⟩ := h
      obtain ⟨pa, st, hl⟩ := cAs_ok ok G h1
      cases args with
      | nil =>
        rw [show ss = [] from List.length_eq_zero_iff.mp hl.symm]
        exact peImp (pe_call0S F G.room g1 hm hk hb hx g2) fun σ H Q q => call_ok q
      | cons e es =>
        simp only [List.all_cons, Bool.and_eq_true] at st
        exact peImp (pe_callS F G.room g1 hm hk hb hx pa g2 (star_cons st.1) (star_any st.2)) fun σ H Q q => call_ok q
    · rename_i hgl hne
      obtain ⟨g1, g2⟩ := G.gl hgl
      split at h
      · rename_i ks hks
        split at h
        · rename_i q hq
          have hq1 := List.find?_some hq
          have hq2 := List.mem_of_find?_eq_some hq
          simp only [Bool.and_eq_true, decide_eq_true_eq] at hq1
          split at h
          · rename_i as bs h1 h2
            cases h
            obtain ⟨pa, st, hl⟩ := cAs_ok (M := M) (W := W) ok G h1
            obtain ⟨_, _, hl2⟩ := cL_ok (fun e s h => (cV_ok (M := M) (W := W) ok G h).1) h2
            have pk : PK X kws (LAs X.K M W bs) := pk_of hl2 fun i e s e1 e2 => (cV_ok ok G (cL_get h2 e1 e2)).1.1
            obtain ⟨w1, w2, w3⟩ := kw_ok (env := X.env) (pos := pos) hks
            have hbd := hkw q hq2
            rw [hq1.1, hq1.2] at hbd
            have lenR : ∀ {σ : St} {H : Hp} {Q : VK}, LX X.K M W (evCallK (c.cal fi.id) (as ++ bs) q.2.2) σ H Q → tCallP (spF X.K M (c.cal fi.id)) q.2.2 (WE W) args.length ks.length (LAs X.K M W as) (LAs X.K M W bs) σ H Q := fun {σ H Q} z => by
              have z1 := LAs.app (callK_ok z)
              have len : ∀ {ss : List SA} {σ : St} {H : Hp} {Q : List V → Hp → Prop}, LAs X.K M W ss σ H Q → LAs X.K M W ss σ H fun vs H' => vs.length = ss.length ∧ Q vs H' := by
                intro ss
                induction ss with
                | nil => intro σ H Q h; exact ⟨rfl, h⟩
                | cons s ss ih => intro σ H Q h; exact LA1.mono (fun x H' q => LAs.mono (fun xs H2 q2 => ⟨by simp [q2.1], q2.2⟩) (ih q)) h
              have hkl : ks.length = bs.length := by
                rw [← hl2, kwNames_len hks]
              exact LAs.mono (fun vs H1 q1 => LAs.mono (fun zs H2 q2 => ⟨by rw [q1.1, hl], by rw [q2.1, hkl], q2.2⟩) (len q1.2)) (len z1)
            cases args with
            | nil =>
              have := List.length_eq_zero_iff.mp hl.symm
              subst this
              exact peImp (pe_callK0S F G.room g1 hm hk hbd hx pk w1 w2 g2 (by rw [w3]; rfl)) fun σ H Q z => lenR z
            | cons e es =>
              have st2 := st
              simp only [List.all_cons, Bool.and_eq_true] at st2
              exact peImp (pe_callKS F G.room g1 hm hk hbd hx pa pk w1 w2 g2 (star_cons st2.1) (by rw [w3, star_any st]; rfl)) fun σ H Q z => lenR z
          · cases h
        · cases h
      · cases h
    · cases h
  · split at h
    · split at h
      · rename_i hbl
        obtain ⟨_, g1, g2, g3⟩ := G.bl hbl
        split at h
        · rename_i b g hb
          obtain ⟨hn, hB⟩ := biG_ok (X := X) G.calm hb
          split at h
          · cases h
          · rename_i hne
            simp only [Option.map_eq_some_iff] at h
            obtain ⟨ss, h1, rfl⟩ := h
            obtain ⟨pa, st, hl⟩ := cL_ok (fun e s => cA_ok ok G) h1
            cases args with
            | nil => exact absurd rfl hne
            | cons e es =>
              cases ss with
              | nil => cases hl
              | cons s ss =>
                simp only [List.all_cons, Bool.and_eq_true] at st
                rcases hB with ⟨id, r, _, hv, hc, hp⟩ | ⟨T, r, _, hv, hc, hp⟩
                · exact x_callB hc hp g1 g2 hv pa hn g3 (star_cons st.1) (star_any st.2)
                · exact x_callTy hc hp g1 g2 hv pa hn g3 (star_cons st.1) (star_any st.2)
        · split at h
          · rename_i a T pT hi
            have hi := of_decide_eq_true hi
            subst hi
            split at h
            · rename_i t s h1 h2
              cases h
              obtain ⟨pa, sa⟩ := cA_ok (M := M) (W := W) ok G h2
              obtain ⟨pt, _⟩ := cTys_ok G (es := [.Name T pT]) (ts := [t]) h1
              refine peImp (pe_callB call_isi g1 g2 (by decide +kernel) (pa_cons pa pt (star_cons sa)) (by decide) g3 (star_cons sa) (star_any (by rfl))) fun σ H Q q => ?_
              have q' : LAs X.K M W [s] σ H (fun xs H1 => ruIsi1 X.K t xs H1 Q) := prim_ok pr_isi1 q
              exact q'
            · cases h
          · rename_i a es k2 p2 hi
            have hi := of_decide_eq_true hi
            subst hi
            split at h
            · rename_i ts s h1 h2
              split at h
              · rename_i hl
                cases h
                obtain ⟨pa, sa⟩ := cA_ok (M := M) (W := W) ok G h2
                obtain ⟨pt, _⟩ := cTys_ok G h1
                refine peImp (pe_callB call_isiT g1 g2 (by decide +kernel) (pa_cons pa (pa_cons (pe_tup pt) pa_nil rfl) (star_cons sa)) (by decide) g3 (star_cons sa) (star_any (by rfl))) fun σ H Q q => ?_
                have q' : LAs X.K M W [s] σ H (fun xs H1 => ruIsiT X.K ts xs H1 Q) := prim_ok (pr_isiT (Nat.le_of_ble_eq_true hl)) q
                exact LA1.mono (fun x H1 z => tTys_run z) q'
              · cases h
            · cases h
          · cases h
      · cases h
    · cases h
end
end L3

set_option maxRecDepth 100000
/-! E23: enumerate of lists and tuples, from any number on. -/
namespace L3
open PySem PySem.Spec PyProof.Rows L2

/-- what is numbered from c on: the items as Sq tells them -/
def Itec (Sq : Hp → List V → Prop) (c : Int) : It :=
  ⟨fun i H => ∃ (xs : List V) (x : V), Sq H xs ∧ xs[i]? = some x, fun i H v H' => ∃ T x, v = .ref T ∧ H T = none ∧ H' = upd H T (.tup [.int (c + (i : Nat)), x]) ∧ ∀ xs, Sq H xs → xs[i]? = some x, fun i H => ∃ xs : List V, Sq H xs ∧ xs.length = i⟩
/-- a kind of sequence: how its iterator stands -/
structure SeqKd (P : Program) (w : World) (K : Frag) (a it : Addr) (Sq : Hp → List V → Prop) (SI : Nat → Heap → Prop) (C : Heap → Array Value → Prop) : Prop where
  get : ∀ (X : Cx), X.K = K → ∀ pins σ H s xs, Inv X pins σ H s → Sq H xs → ∃ its : List Value, Vals xs its ∧ C s.heap its.toArray
  inj : ∀ (X : Cx), X.K = K → ∀ pins σ H s xs ys, Inv X pins σ H s → Sq H xs → Sq H ys → xs = ys
  dr : ∀ (A : Around), A.handled = none → a ≠ it → ∀ items, Draws P w A it [it, a] items.size (fun i v => items[i]? = some v) (fun i h => SI i h ∧ C h items)
  obj : ∀ i h, SI i h → ∃ o, h.get? it = some o ∧ ∀ v, o.data ≠ .cell v
  keep : ∀ i h h', SI i h → (∀ o, h.get? it = some o → h'.get? it = some o) → SI i h'
section
variable {P : Program} {w : World} {K : Frag} {a it e : Addr} {Sq : Hp → List V → Prop} {SI : Nat → Heap → Prop} {C : Heap → Array Value → Prop} {c : Int}
theorem turn_enumC {elts : List Expr} {kk : Nat} {tpos : Pos} (G : SeqKd P w K a it Sq SI C) (n1 : e ≠ it) (n2 : e ≠ a) (n3 : a ≠ it) :
    Turn P w K (.Tuple elts kk tpos) (Itec Sq c) [e, it] e (fun i h => (∃ old, IsEnum h e it (c + (i : Nat)) old) ∧ SI i h) where
  mem := List.mem_cons_self
  obj := fun i h ⟨⟨old, he⟩, st⟩ b hb => by
    rcases List.mem_cons.mp hb with z | hb
    · subst z; exact ⟨_, he, fun v q => nomatch q⟩
    · rw [List.mem_singleton.mp hb]; exact G.obj i h st
  keep := fun i h h' ⟨⟨old, he⟩, st⟩ k => ⟨⟨old, k e List.mem_cons_self _ he⟩, G.keep i h h' st (k it (List.mem_cons_of_mem _ List.mem_cons_self))⟩
  item := fun X hP hw hK hc i pins s σ H E I hf ⟨⟨old, he⟩, st⟩ ⟨xs, x, hq, hx⟩ => by
    subst hP hw
    obtain ⟨its, rv, cs⟩ := G.get X hK pins σ H s xs I hq
    obtain ⟨u, hu, ru⟩ := rv.get hx
    have hel : e < s.heap.objs.size := Heap.lt_size he
    have hil : it < s.heap.objs.size := by obtain ⟨_, q, _⟩ := G.obj i _ st; exact Heap.lt_size q
    have hlt : i < its.toArray.size := by rw [List.size_toArray]; exact (List.getElem?_eq_some_iff.mp hu).1
    have hh : X.A.in1.handled = none := I.ok.hd hc
    refine wpAny_pyNext_enum_itemC (G.dr X.A.in1 hh n3 its.toArray) he ⟨st, cs⟩ hlt n1 (fun z => ?_) fun y h' tk hy ho st' hT hsz hk => ?_
    · rcases List.mem_cons.mp z with z | z
      · exact n1 z
      · exact n2 (List.mem_singleton.mp z)
    have ey : y = u := by
      have q : its[i]? = some y := by simpa using hy
      rw [hu] at q; exact (Option.some.inj q).symm
    subst ey
    refine ⟨_, rfl, wpAny_letOwnedTupleGo_enum (s := { s with heap := h', toks := tk + 1 }) ho fun h'' he' sb => ?_⟩
    have hT2 : h''.get? s.heap.objs.size = some { cls := .type "tuple", data := .seq #[.int (c + (i : Nat)) tk, y] } := (sb.2 _ (Nat.ne_of_gt hel)).trans hT
    have new : ObjOk X.prog X.w (upd H s.heap.objs.size (.tup [.int (c + (i : Nat)), x])) h'' s.heap.objs.size (.tup [.int (c + (i : Nat)), x]) :=
      ⟨(by decide : 2 ≤ sizeLine), [.int (c + (i : Nat)) tk, y], .cons ⟨_, rfl⟩ (.cons ru .nil), ⟨_, hT2, rfl, _, rfl⟩⟩
    have I1 : Inv X pins σ (upd H s.heap.objs.size (.tup [.int (c + (i : Nat)), x])) { s with heap := h'', toks := tk + 1 } :=
      I.turnedNew (ch := [e, it]) (fun b ob hb q => (sb.2 b (fun z => hb (by rw [z]; exact List.mem_cons_self))).trans (hk b ob (fun z => hb (by rw [z]; exact List.mem_cons_self)) (fun z => hb (by rw [z]; exact List.mem_cons_of_mem _ List.mem_cons_self)) q)) hf (Nat.le_refl _) new
    refine ⟨.ref s.heap.objs.size, _, I1, rfl, ⟨_, x, rfl, I.hok.fresh (Nat.le_refl _), rfl, fun ys hy => by rw [G.inj X hK pins σ H s ys xs I hy hq]; exact hx⟩, ⟨⟨y, ?_⟩, G.keep _ _ _ st'.1 fun o q => (sb.2 it (Ne.symm n1)).trans q⟩, fun b hb => ?_⟩
    · have e1 : c + ((i + 1 : Nat) : Int) = c + (i : Nat) + 1 := by omega
      rw [e1]; exact he'
    · have hb' : b < s.heap.objs.size := by
        rcases List.mem_cons.mp hb with z | z
        · rw [z]; exact hel
        · rw [List.mem_singleton.mp z]; exact hil
      rw [upd_ne (Nat.ne_of_lt hb')]
      exact (hf b hb).1
  done := fun X hP hw hK hc i pins s σ H E I hf ⟨⟨old, he⟩, st⟩ ⟨xs, hq, hx⟩ => by
    subst hP hw
    obtain ⟨its, rv, cs⟩ := G.get X hK pins σ H s xs I hq
    obtain ⟨f0, f1, f2, f3, f4, f5⟩ := hf it (List.mem_cons_of_mem _ List.mem_cons_self)
    have hh : X.A.in1.handled = none := I.ok.hd hc
    have hl : its.toArray.size = i := by rw [List.size_toArray, ← rv.length]; exact hx
    refine wpAny_pyNext_enum_endD (G.dr X.A.in1 hh n3 its.toArray) he ⟨by rw [hl]; exact st, cs⟩ fun h' eb => ⟨rfl, I.turned (t' := s.toks) (fun b o hb q => eb b o hb q) f0 f1 f3 f4 f5⟩
  self := fun A i s Q E ⟨⟨_, he⟩, _⟩ h => wpAny_pyIter_enum he h
theorem kd_list : SeqKd P w K a it (fun H xs => SqL K H a xs) (fun i h => h.IsListIter it a i) (fun h items => h.IsList a items) where
  get := fun X hK pins σ H s xs I h => by
    subst hK
    obtain ⟨its, r, p, _⟩ := I.list h
    exact ⟨its, r, p.isList⟩
  inj := fun X hK pins σ H s xs ys I h h' => by subst hK; exact I.list_inj h h'
  dr := fun A hh hne items => Draws.list hh it a hne items
  obj := fun i h ⟨o, ho, _, hd⟩ => ⟨o, ho, fun v q => by rw [hd] at q; cases q⟩
  keep := fun i h h' st k => st.at k
theorem kd_tup : SeqKd P w K a it (fun H xs => SqT K H a xs) (fun i h => h.IsTupleIter it a i) (fun h items => h.IsTuple a items) where
  get := fun X hK pins σ H s xs I h => by
    subst hK
    obtain ⟨its, r, p, _⟩ := I.tuple h
    exact ⟨its, r, p⟩
  inj := fun X hK pins σ H s xs ys I h h' => by subst hK; exact I.tuple_inj h h'
  dr := fun A hh hne items => Draws.tuple hh it a hne items
  obj := fun i h ⟨o, ho, _, hd⟩ => ⟨o, ho, fun v q => by rw [hd] at q; cases q⟩
  keep := fun i h h' st k => st.at k
end
end L3

set_option maxRecDepth 100000
/-! E24: .. as what is walked. -/
namespace L3
open PySem PySem.Spec PyProof.Rows L2
def enD : Int → List D → List D
  | _, [] => []
  | c, d :: ds => .tup [.int c, d] :: enD (c + 1) ds
theorem enD_len : ∀ (c : Int) (ds : List D), (enD c ds).length = ds.length
  | _, [] => rfl
  | c, d :: ds => by simp [enD, enD_len (c + 1) ds]
theorem enD_get : ∀ {c : Int} {ds : List D} {i : Nat} {d : D}, (enD c ds)[i]? = some d → ∃ x, ds[i]? = some x ∧ d = .tup [.int (c + (i : Nat)), x]
  | _, [], _, _, h => by simp [enD] at h
  | c, x :: ds, 0, d, h => ⟨x, rfl, by simp [enD] at h; rw [← h]; simp⟩
  | c, x :: ds, i + 1, d, h => by
    simp only [enD, List.getElem?_cons_succ] at h
    obtain ⟨y, h1, h2⟩ := enD_get h
    refine ⟨y, by simpa using h1, ?_⟩
    rw [h2]
    have : c + 1 + ((i : Nat) : Int) = c + ((i + 1 : Nat) : Int) := by omega
    rw [this]
section
variable {K : Frag} {a : Addr} {ds : List D} {c : Int}
theorem jok_en {Sq : Hp → List V → Prop} : JOk K (Itec Sq c) (enD c ds) fun O H => ∃ xs, Sq H xs ∧ Reps O K H xs ds := fun O H out ⟨xs, h, r⟩ => by
  refine ⟨⟨xs, h, by rw [r.length, enD_len]⟩, fun i d e => ?_⟩
  obtain ⟨x, e1, rfl⟩ := enD_get e
  obtain ⟨y, hy, ry⟩ := r.get e1
  refine ⟨⟨xs, y, h, hy⟩, fun z H' ⟨T, x', e2, e3, e4, e5⟩ => ?_⟩
  have q := e5 xs h
  rw [hy] at q
  cases q
  subst e2 e4
  exact rep_pair out e3 (.int _) ry
def gEn1 : List D → Option (List D)
  | [.lst ds] => some (enD 0 ds)
  | [.fls ds] => some (enD 0 ds)
  | _ => none
def gEnK : List D → Option (List D)
  | [.lst ds, .int k] => match sm62 k with
    | true => some (enD k ds)
    | false => none
  | [.fls ds, .int k] => match sm62 k with
    | true => some (enD k ds)
    | false => none
  | [.tup ds, .int k] => match sm62 k with
    | true => some (enD k ds)
    | false => none
  | _ => none
end
section
variable {X : Cx} {M : XM} {W : WX} {p pos tpos : Pos} {elts : List Expr} {kk : Nat}
theorem enL_it {O : Addr → Prop} {σ : L2.St} {ρ : Sls} {H : Hp} {a : Addr} {xs : List V} {ds : List D} {c : Int} (t : LAt (Ow O σ ρ) X.K H a xs) (r : Reps (Ow O σ ρ) X.K H xs ds) : ItOk X.K (Itec (fun H xs => SqL X.K H a xs) c) (enD c ds) none O σ ρ H :=
  ⟨fun O H => ∃ xs, LAt O X.K H a xs ∧ Reps O X.K H xs ds, jok_en.mono fun O H ⟨xs, g1, g2⟩ => ⟨xs, g1.sq, g2⟩, .inl ⟨rfl, ⟨xs, t, r⟩, fun O H O' H' k ⟨xs, g1, g2⟩ => ⟨xs, g1.keep k, Reps.keep k _ _ g2⟩⟩⟩
theorem enT_it {O : Addr → Prop} {σ : L2.St} {ρ : Sls} {H : Hp} {a : Addr} {xs : List V} {ds : List D} {c : Int} (t : TAt (Ow O σ ρ) X.K H a xs) (r : Reps (Ow O σ ρ) X.K H xs ds) : ItOk X.K (Itec (fun H xs => SqT X.K H a xs) c) (enD c ds) none O σ ρ H :=
  ⟨fun O H => ∃ xs, TAt O X.K H a xs ∧ Reps O X.K H xs ds, jok_en.mono fun O H ⟨xs, g1, g2⟩ => ⟨xs, g1.sq, g2⟩, .inl ⟨rfl, ⟨xs, t, r⟩, fun O H O' H' k ⟨xs, g1, g2⟩ => ⟨xs, g1.keep k, Reps.keep k _ _ g2⟩⟩⟩
/-- the rule: of a list -/
theorem pi_en1 {e : Expr} {ta : TA} (hg : Gl X "enumerate") (hm : X.mg "enumerate" = none) (ha : PA X [e] ta) (hs : starEach [e] X.env = [(false, eval e X.env)]) :
    PI X (.Tuple elts kk tpos) (.Call (.Name "enumerate" p) [e] [] pos) (fun σ H R => ta σ H fun vs H1 => ∃ a xs, vs = [.ref a] ∧ SqL X.K H1 a xs ∧ R (Itec (fun H xs => SqL X.K H a xs) 0) H1) := by
  refine ⟨fun pins s σ H R I h => Call_ (ld_blt I hg hm boot_enumerate (PyProof.Rows.callWith_type1 (thn (ha.run pos pins s σ H _ I h) fun us s1 ⟨vs, H1, I1, r1, a, xs, ex, hq, q⟩ => ?_) hs rfl))⟩
  subst ex
  cases r1 with
  | cons r rr =>
    cases rr
    cases r
    obtain ⟨its, rv, p', hz⟩ := I1.list hq
    have ha1 : a < s1.heap.objs.size := by obtain ⟨_, q, _⟩ := p'.isList; exact Heap.lt_size q
    refine call_enumerate_list p'.isList fun h' he hit hsz hk => wpAny_pyIter_enum he ⟨s1.heap.objs.size + 1, [s1.heap.objs.size + 1, s1.heap.objs.size], _, _, H1, rfl, I1.kept (t' := s1.toks) hk,
      turn_enumC (c := 0) kd_list (Nat.succ_ne_self _) (Nat.ne_of_gt (Nat.lt_succ_of_lt ha1)) (Nat.ne_of_lt ha1), ⟨⟨.none, he⟩, hit⟩, fun b hb => ?_, q⟩
    have hle : s1.heap.objs.size ≤ b := by
      rcases List.mem_cons.mp hb with z | z
      · rw [z]; exact Nat.le_succ _
      · rw [List.mem_singleton.mp z]; exact Nat.le_refl _
    exact I1.fpOk hle (I1.hok.fresh hle)
/-- .. of a list, a tuple, from k on -/
theorem pi_enK {e ek : Expr} {pk : Pos} {ta tk : TA} (hg : Gl X "enumerate") (hm : X.mg "enumerate" = none) (ha : PA X [e] ta) (hk : PK X [⟨some "start", ek, pk⟩] tk) (hs : starEach [e] X.env = [(false, eval e X.env)]) :
    PI X (.Tuple elts kk tpos) (.Call (.Name "enumerate" p) [e] [⟨some "start", ek, pk⟩] pos) (fun σ H R => ta σ H fun vs H1 => tk σ H1 fun ks H2 => ∃ a xs k, vs = [.ref a] ∧ ks = [.int k] ∧ (-(2 ^ 62) ≤ k ∧ k < 2 ^ 62) ∧
      ((SqL X.K H2 a xs ∧ R (Itec (fun H xs => SqL X.K H a xs) k) H2) ∨ (SqT X.K H2 a xs ∧ R (Itec (fun H xs => SqT X.K H a xs) k) H2))) := by
  refine ⟨fun pins s σ H R I h => ?_⟩
  refine wpAny_Call_Name_kw (ld_blt I hg hm boot_enumerate ?_)
  refine PySem.W.callWith_of (P := fun _ => True) (by rw [hs]; rfl) (fun _ _ => ⟨.machine, .inr (.inl rfl), PySem.W.Looks.of_pure rfl⟩) (evalArgs_kw2 rfl (thn (ha.run pos pins s σ H _ I h) fun us s1 ⟨vs, H1, I1, r1, q1⟩ => thn (hk.run pos pins s1 σ H1 _ I1 q1) fun ws s2 ⟨ks, H2, I2, r2, a, xs, k, ex, ek, hk, q⟩ => ⟨trivial, ?_⟩) hs)
  subst ex ek
  cases r1 with
  | cons r rr =>
    cases rr
    cases r
    cases r2 with
    | cons r' rr' =>
      cases rr'
      obtain ⟨tt, rfl⟩ := r'
      have b1 : -(2 ^ 63) ≤ k := by omega
      have b2 : k < 2 ^ 63 := by omega
      rcases q with ⟨hq, q⟩ | ⟨hq, q⟩
      · obtain ⟨its, rv, p', hz⟩ := I2.list hq
        have ha1 : a < s2.heap.objs.size := by obtain ⟨_, q, _⟩ := p'.isList; exact Heap.lt_size q
        refine enum_begins_start (begins_list a its.toArray) p'.isList b1 b2 fun h' he hit hsz hk => wpAny_pyIter_enum he ⟨s2.heap.objs.size + 1, [s2.heap.objs.size + 1, s2.heap.objs.size], _, _, H2, rfl, I2.kept (t' := s2.toks) hk,
          turn_enumC (c := k) kd_list (Nat.succ_ne_self _) (Nat.ne_of_gt (Nat.lt_succ_of_lt ha1)) (Nat.ne_of_lt ha1), ⟨⟨.none, by simpa using he⟩, ⟨_, hit, rfl, rfl⟩⟩, fun b hb => ?_, q⟩
        have hle : s2.heap.objs.size ≤ b := by
          rcases List.mem_cons.mp hb with z | z
          · rw [z]; exact Nat.le_succ _
          · rw [List.mem_singleton.mp z]; exact Nat.le_refl _
        exact I2.fpOk hle (I2.hok.fresh hle)
      · obtain ⟨its, rv, p', hz⟩ := I2.tuple hq
        have ht : s2.heap.IsTuple a its.toArray := p'
        have ha1 : a < s2.heap.objs.size := by obtain ⟨_, q, _⟩ := ht; exact Heap.lt_size q
        refine enum_begins_start (begins_tuple a its.toArray) ht b1 b2 fun h' he hit hsz hk => wpAny_pyIter_enum he ⟨s2.heap.objs.size + 1, [s2.heap.objs.size + 1, s2.heap.objs.size], _, _, H2, rfl, I2.kept (t' := s2.toks) hk,
          turn_enumC (c := k) kd_tup (Nat.succ_ne_self _) (Nat.ne_of_gt (Nat.lt_succ_of_lt ha1)) (Nat.ne_of_lt ha1), ⟨⟨.none, by simpa using he⟩, ⟨_, hit, rfl, rfl⟩⟩, fun b hb => ?_, q⟩
        have hle : s2.heap.objs.size ≤ b := by
          rcases List.mem_cons.mp hb with z | z
          · rw [z]; exact Nat.le_succ _
          · rw [List.mem_singleton.mp z]; exact Nat.le_refl _
        exact I2.fpOk hle (I2.hok.fresh hle)
theorem i_en1 {e : Expr} {ss : List SA} (hal : allE ss = true) (hg : Gl X "enumerate") (hm : X.mg "enumerate" = none) (ha : PA X [e] (LAs X.K M W ss)) (hs : starEach [e] X.env = [(false, eval e X.env)]) :
    PI X (.Tuple elts kk tpos) (.Call (.Name "enumerate" p) [e] [] pos) (LI X.K M W (evItm gEn1 ss)) := by
  refine piImp (pi_en1 hg hm ha hs) fun σ H R h => ?_
  refine itm_ok (fun O σ ρ H xs ds items E _ hr hg q => ?_) h
  have hr := hr hal
  unfold gEn1 at hg
  split at hg
  · cases hg
    cases hr with
    | cons r1 hr =>
      cases hr
      obtain ⟨a, ys, rfl, t, s⟩ := r1.lsL rfl
      exact ⟨a, ys, rfl, t.sq, q _ (enL_it t s)⟩
  · cases hg
    cases hr with
    | cons r1 hr =>
      cases hr
      obtain ⟨a, ys, rfl, t, s⟩ := r1.lsL rfl
      exact ⟨a, ys, rfl, t.sq, q _ (enL_it t s)⟩
  · cases hg
theorem i_enK {e ek : Expr} {pk : Pos} {as bs : List SA} (hal : allE (as ++ bs) = true) (hl : as.length = 1) (hg : Gl X "enumerate") (hm : X.mg "enumerate" = none) (ha : PA X [e] (LAs X.K M W as)) (hk : PK X [⟨some "start", ek, pk⟩] (LAs X.K M W bs)) (hs : starEach [e] X.env = [(false, eval e X.env)]) :
    PI X (.Tuple elts kk tpos) (.Call (.Name "enumerate" p) [e] [⟨some "start", ek, pk⟩] pos) (LI X.K M W (evItm gEnK (as ++ bs))) := by
  refine piImp (pi_enK hg hm ha hk hs) fun σ H R h => ?_
  have z := itm_ok (ru := fun xs H2 => ∃ a ys k, xs = [.ref a, .int k] ∧ (-(2 ^ 62) ≤ k ∧ k < 2 ^ 62) ∧ ((SqL X.K H2 a ys ∧ R (Itec (fun H xs => SqL X.K H a xs) k) H2) ∨ (SqT X.K H2 a ys ∧ R (Itec (fun H xs => SqT X.K H a xs) k) H2))) (fun O σ ρ H xs ds items E _ hr hg q => by
    have hr := hr hal
    unfold gEnK at hg
    split at hg
    · split at hg
      · rename_i c
        cases hg
        cases hr with
        | cons r1 hr =>
          cases hr with
          | cons r2 hr =>
            cases hr
            cases r2
            obtain ⟨a, ys, rfl, t, s⟩ := r1.lsL rfl
            exact ⟨a, ys, _, rfl, sm62_of c, .inl ⟨t.sq, q _ (enL_it t s)⟩⟩
      · cases hg
    · split at hg
      · rename_i c
        cases hg
        cases hr with
        | cons r1 hr =>
          cases hr with
          | cons r2 hr =>
            cases hr
            cases r2
            obtain ⟨a, ys, rfl, t, s⟩ := r1.lsL rfl
            exact ⟨a, ys, _, rfl, sm62_of c, .inl ⟨t.sq, q _ (enL_it t s)⟩⟩
      · cases hg
    · split at hg
      · rename_i c
        cases hg
        cases hr with
        | cons r1 hr =>
          cases hr with
          | cons r2 hr =>
            cases hr
            cases r2
            cases r1 with
            | @tup a ys _ t s => exact ⟨a, ys, _, rfl, sm62_of c, .inr ⟨t.sq, q _ (enT_it t s)⟩⟩
      · cases hg
    · cases hg) h
  have len : ∀ {ss : List SA} {σ : L2.St} {H : Hp} {Q : List V → Hp → Prop}, LAs X.K M W ss σ H Q → LAs X.K M W ss σ H fun vs H' => vs.length = ss.length ∧ Q vs H' := by
    intro ss
    induction ss with
    | nil => intro σ H Q h; exact ⟨rfl, h⟩
    | cons s ss ih => intro σ H Q h; exact LA1.mono (fun x H' q => LAs.mono (fun xs H2 q2 => ⟨by simp [q2.1], q2.2⟩) (ih q)) h
  refine LAs.mono (fun vs H1 q1 => ?_) (len (LAs.app z))
  obtain ⟨hl1, q1⟩ := q1
  refine LAs.mono (fun ks H2 q2 => ?_) q1
  obtain ⟨a, ys, k, e1, e2, e3⟩ := q2
  rw [hl] at hl1
  match vs, ks, e1, hl1 with
  | [v], [k'], e1, _ => cases e1; exact ⟨a, ys, _, rfl, rfl, e2, e3⟩
  | [v], [], e1, _ => cases e1
  | [v], _ :: _ :: _, e1, _ => cases e1
end
end L3

/-! E16: targets, what is walked, comprehensions, one layer of expressions. -/
namespace L3
open PySem L2

/-! targets -/
def cGs (f : Expr → Option TgE) : List Expr → Option (List D → Sls → Option Sls)
  | [] => some asgNil
  | e :: es => match f e, cGs f es with
    | some g, some gs => some (asgCons g gs)
    | _, _ => none
def cG (c : Cc) (z : SlZ) : Nat → Expr → Option TgE
  | 0, _ => none
  | n + 1, e => match e with
    | .Name x _ => match locOf c x with
      | some i => match z i with
        | true => some (asgSl i)
        | false => none
      | none => none
    | .Tuple es _ _ => match es.all noStar with
      | true => match cGs (cG c z n) es with
        | some gs => some (asgTup es.length gs)
        | none => none
      | false => none
    | _ => none
theorem asgEach {es : List Expr} {env : Env} (h : es.all noStar = true) : (assignEach es env).length = es.length ∧ (assignEach es env).findIdx? (fun x => x.1) = none := by
  induction es with
  | nil => exact ⟨rfl, rfl⟩
  | cons e es ih =>
    simp only [List.all_cons, Bool.and_eq_true] at h
    obtain ⟨h1, h2⟩ := ih h.2
    have q : assignEach (e :: es) env = (false, assign e env) :: assignEach es env := by
      have := h.1
      cases e <;> first | rfl | cases this
    rw [q]
    exact ⟨by simp [h1], by rw [List.findIdx?_cons]; simp [h2]⟩
theorem asgEach_cons {e : Expr} {es : List Expr} {env : Env} (h : noStar e = true) : (assignEach (e :: es) env).map (·.2) = assign e env :: (assignEach es env).map (·.2) := by
  cases e <;> first | rfl | cases h
section
variable {c : Cc} {k : Nat} {X : Cx} {M : XM} {W : WX} {rX : RX} {rT : RT} {p pos : Pos}
theorem cGs_ok {z : SlZ} {f : Expr → Option TgE} (ok : ∀ e g, f e = some g → PG X e (LG X.K z g)) : ∀ {es : List Expr} {gs : List D → Sls → Option Sls}, es.all noStar = true → cGs f es = some gs → PGs X es (LGs X.K z gs)
  | [], gs, _, h => by cases h; exact gs_nil
  | e :: es, gs, hs, h => by
    simp only [List.all_cons, Bool.and_eq_true] at hs
    simp only [cGs] at h
    split at h
    · rename_i g gs' h1 h2
      cases h
      exact gs_cons (ok _ _ h1) (cGs_ok ok hs.2 h2) (asgEach_cons hs.1)
    · cases h
theorem cG_ok (G : Good c k X M W) {z : SlZ} : ∀ {n : Nat} {e : Expr} {g : TgE}, cG c z n e = some g → PG X e (LG X.K z g)
  | 0, e, g, h => by cases h
  | n + 1, e, g, h => by
    unfold cG at h
    split at h
    · rename_i x px
      split at h
      · rename_i i ei
        split at h
        · rename_i hz
          cases h
          obtain ⟨g1, g2, g3⟩ := G.loc ei
          exact g_name hz G.nd g1 g2 g3
        · cases h
      · cases h
    · rename_i es kk pt
      split at h
      · rename_i hs
        split at h
        · rename_i gs hg
          cases h
          obtain ⟨a1, a2⟩ := asgEach (env := X.env) hs
          exact g_tup G.calm (cGs_ok (fun e g => cG_ok G) hs hg) a1 a2
        · cases h
      · cases h
    · cases h

/-! what is walked -/
def cI0 (rX : RX) (c : Cc) (it : Expr) : Option EvI := (cA rX c it).map evSeq
def isTup : Expr → Bool
  | .Tuple _ _ _ => true
  | _ => false
def cI (rX : RX) (c : Cc) (tg it : Expr) : Option EvI := match it with
  | .Call (.Name f _) args [] _ => match isBl c f "range" with
    | true => match args with
      | [a] => (cL (cA rX c) [a]).map (evItm gRg1)
      | [a, b] => (cL (cA rX c) [a, b]).map (evItm gRg2)
      | [a, b, d] => (cL (cA rX c) [a, b, d]).map (evItm gRg3)
      | _ => none
    | false => match isBl c f "zip" && isTup tg with
      | true => match args with
        | [a, b] => (cL (cV rX c) [a, b]).map (evItm gZip)
        | _ => none
      | false => match isBl c f "enumerate" && isTup tg with
        | true => match args with
          | [a] => (cL (cV rX c) [a]).map (evItm gEn1)
          | _ => none
        | false => cI0 rX c it
  | .Call (.Name f _) [a] [⟨some nm, ek, _⟩] _ => match isBl c f "enumerate" && isTup tg && decide (nm = "start"), cL (cV rX c) [a], cL (cV rX c) [ek] with
    | true, some as, some bs => some (evItm gEnK (as ++ bs))
    | _, _, _ => none
  | _ => cI0 rX c it
theorem cI0_ok (ok : OkX rX) (G : Good c k X M W) {tg it : Expr} {f : EvI} (h : cI0 rX c it = some f) : PI X tg it (LI X.K M W f) := by
  simp only [cI0, Option.map_eq_some_iff] at h
  obtain ⟨s, h1, rfl⟩ := h
  exact i_seq (cA_ok ok G h1).1
theorem cL_len {f : Expr → Option SA} : ∀ {es : List Expr} {ss : List SA}, cL f es = some ss → ss.length = es.length
  | [], ss, h => by cases h; rfl
  | e :: es, ss, h => by
    unfold cL at h
    split at h
    · rename_i s ss' g1 g2
      cases h
      simp [cL_len g2]
    · cases h
theorem cI_ok (ok : OkX rX) (G : Good c k X M W) {tg it : Expr} {f : EvI} (h : cI rX c tg it = some f) : PI X tg it (LI X.K M W f) := by
  unfold cI at h
  split at h
  · rename_i fn pf args pc
    split at h
    · rename_i hb
      obtain ⟨rfl, g1, g2, g3⟩ := G.bl hb
      split at h
      · rename_i a
        simp only [Option.map_eq_some_iff] at h
        obtain ⟨ss, h1, rfl⟩ := h
        obtain ⟨pa, st, hl⟩ := cL_ok (fun e s => cA_ok (M := M) (W := W) ok G) h1
        obtain ⟨s, rfl⟩ : ∃ s, ss = [s] := List.length_eq_one_iff.mp hl.symm
        simp only [List.all_cons, List.all_nil, Bool.and_true] at st
        exact i_rg1 g1 g2 pa (star_cons st)
      · rename_i a b
        simp only [Option.map_eq_some_iff] at h
        obtain ⟨ss, h1, rfl⟩ := h
        obtain ⟨pa, st, hl⟩ := cL_ok (fun e s => cA_ok (M := M) (W := W) ok G) h1
        simp only [List.all_cons, List.all_nil, Bool.and_true, Bool.and_eq_true] at st
        exact i_rg2 g1 g2 pa (by rw [star_cons st.1, star_cons st.2]; rfl) (star_cons st.2)
      · rename_i a b d
        simp only [Option.map_eq_some_iff] at h
        obtain ⟨ss, h1, rfl⟩ := h
        obtain ⟨pa, st, hl⟩ := cL_ok (fun e s => cA_ok (M := M) (W := W) ok G) h1
        have st2 := st
        simp only [List.all_cons, Bool.and_eq_true] at st
        exact i_rg3 g1 g2 pa (star_cons st.1) (star_any (by simp only [List.all_cons, Bool.and_eq_true]; exact st.2))
      · cases h
    · split at h
      · rename_i hb
        simp only [Bool.and_eq_true] at hb
        obtain ⟨rfl, g1, g2, g3⟩ := G.bl hb.1
        split at h
        · rename_i a b
          simp only [Option.map_eq_some_iff] at h
          obtain ⟨ss, h1, rfl⟩ := h
          obtain ⟨pa, st, hl⟩ := cL_ok (fun e s h => (cV_ok (M := M) (W := W) ok G h).1) h1
          simp only [List.all_cons, Bool.and_eq_true] at st
          have ht := hb.2
          cases tg with
          | Tuple es kk pt => exact i_zip (cLV_ok ok G h1) g1 g2 pa (star_cons st.1) (star_any (by simp only [List.all_cons, Bool.and_eq_true]; exact st.2))
          | _ => cases ht
        · cases h
      · split at h
        · rename_i hb
          simp only [Bool.and_eq_true] at hb
          obtain ⟨rfl, g1, g2, g3⟩ := G.bl hb.1
          split at h
          · rename_i a
            simp only [Option.map_eq_some_iff] at h
            obtain ⟨ss, h1, rfl⟩ := h
            obtain ⟨pa, st, hl⟩ := cL_ok (fun e s h => (cV_ok (M := M) (W := W) ok G h).1) h1
            simp only [List.all_cons, Bool.and_eq_true] at st
            have ht := hb.2
            cases tg with
            | Tuple es kk pt => exact i_en1 (cLV_ok ok G h1) g1 g2 pa (star_cons st.1)
            | _ => cases ht
          · cases h
        · exact cI0_ok ok G h
  · split at h
    · rename_i hb h1 h2
      cases h
      simp only [Bool.and_eq_true, decide_eq_true_eq] at hb
      obtain ⟨rfl, g1, g2, g3⟩ := G.bl hb.1.1
      obtain ⟨pa, st, hl⟩ := cL_ok (fun e s h => (cV_ok (M := M) (W := W) ok G h).1) h1
      obtain ⟨pb, stb, hlb⟩ := cL_ok (fun e s h => (cV_ok (M := M) (W := W) ok G h).1) h2
      simp only [List.all_cons, Bool.and_eq_true] at st
      have ht := hb.1.2
      have hn := hb.2
      subst hn
      have ea : ∀ {as bs : List SA}, allE as = true → allE bs = true → allE (as ++ bs) = true := by
        intro as bs x y
        induction as with
        | nil => exact y
        | cons s as ih => cases s with
          | late i => cases x
          | e f => exact ih x
      cases tg with
      | Tuple es kk pt => exact i_enK (ea (cLV_ok ok G h1) (cLV_ok ok G h2)) hl.symm g1 g2 pa (pk_of hlb fun i e s e1 e2 => (cV_ok ok G (cL_get h2 e1 e2)).1.1) (star_cons st.1)
      | _ => cases ht
    · cases h
  · exact cI0_ok ok G h

/-! a comprehension -/
def ownOf (c : Cc) : List (Str × NameKind) → List (Str × Nat)
  | [] => []
  | (n, .local) :: r => match idx n c.N with
    | some i => (n, i) :: ownOf c r
    | none => ownOf c r
  | (n, .cell) :: r => match idx n c.N with
    | some i => (n, i) :: ownOf c r
    | none => ownOf c r
  | _ :: r => ownOf c r
def inner (c : Cc) (scope : Scope) : Cc := { c with sc := relS scope c.sc, fnB := fun x => scope.names.lookup x == some .cell, top := false }
def foldSet : Expr → Bool := notSet
def cIfs (rT : RT) (c : Cc) : List Expr → Option (Ev Bool)
  | [] => some evYes
  | [t] => rT c t
  | _ => none
def cComp (rX : RX) (rT : RT) (c : Cc) (elt tg it : Expr) (ifs : List Expr) (scope : Scope) : Option (Ev R) :=
  match blkC c.N c.sc scope (ownOf c scope.names) && notSet it with
  | true => match cI rX c tg it, cG (inner c scope) (fun i => ((ownOf c scope.names).map (·.2)).contains i) 5 tg, cIfs rT (inner c scope) ifs, rX (inner c scope) elt with
    | some fi, some g, some t, some f => some (evComp fi g t f ((ownOf c scope.names).map (·.2)))
    | _, _, _, _ => none
  | false => none
theorem takesW0 {X : Cx} : Takes X W0 := fun _ _ x => by
  obtain ⟨_, _, _, _, _, _, _, _, _, _, _, _, _, _, _, _, z⟩ := x
  exact z.elim
theorem Good.blk (G : Good c k X M W) {scope : Scope} {own : List (Str × Nat)} (b : BlkOk X.N X.env.scope scope own) (s : Shared) (H : Hp) (C : Addr) (cl : List (Str × Addr)) (fp : List Addr) :
    Good (inner c scope) k (X.blk s H scope (compEnvC scope cl C X.env) fp) M W0 where
  sc := by
    show relabel scope X.env = relS scope c.sc
    rw [← G.sc]; rfl
  kd := b.kind
  N := G.N
  nd := G.nd
  fn := rfl
  exs := G.exs
  tr := fun h => nomatch h
  calm := G.calm
  room := G.room
  pass := PassesOwn.never
  takes := takesW0
  blt := G.blt
  fns := G.fns
theorem cIfs_ok (ok : OkT rT) (G : Good c k X M W) {ifs : List Expr} {t : Ev Bool} (h : cIfs rT c ifs = some t) : PTs X ifs (LT X.K M W t) := by
  unfold cIfs at h
  split at h
  · cases h; exact ts_nil
  · exact ts_one (ok _ _ _ h _ _ _ _ G)
  · cases h
/-- what the comprehension's forms want -/
theorem cComp_parts (okX : OkX rX) (okT : OkT rT) (G : Good c k X M W) {elt tg it : Expr} {ifs : List Expr} {scope : Scope} {f : Ev R} (h : cComp rX rT c elt tg it ifs scope = some f) :
    ∃ own fi g t f0, f = evComp fi g t f0 (own.map (·.2)) ∧ BlkOk X.N X.env.scope scope own ∧ notSet it = true ∧ PI X tg it (LI X.K M W fi) ∧
      (∀ (s : Shared) (H : Hp) (C : Addr) (cl : List (Str × Addr)) (fp : List Addr), PG (X.blk s H scope (compEnvC scope cl C X.env) fp) tg (LG X.K (fun i => (own.map (·.2)).contains i) g)) ∧
      (∀ (s : Shared) (H : Hp) (C : Addr) (cl : List (Str × Addr)) (fp : List Addr), PTs (X.blk s H scope (compEnvC scope cl C X.env) fp) ifs (LT X.K M W0 t)) ∧
      (∀ (s : Shared) (H : Hp) (C : Addr) (cl : List (Str × Addr)) (fp : List Addr), PE (X.blk s H scope (compEnvC scope cl C X.env) fp) elt (LX X.K M W0 f0)) := by
  unfold cComp at h
  split at h
  · rename_i hb
    simp only [Bool.and_eq_true] at hb
    have b : BlkOk X.N X.env.scope scope (ownOf c scope.names) := by rw [G.N, G.sc]; exact blkOk_by hb.1
    split at h
    · rename_i fi g t f0 h1 h2 h3 h4
      cases h
      exact ⟨_, fi, g, t, f0, rfl, b, hb.2, cI_ok okX G h1, fun s H C cl fp => cG_ok (G.blk b s H C cl fp) h2, fun s H C cl fp => cIfs_ok okT (G.blk b s H C cl fp) h3, fun s H C cl fp => okX _ _ _ h4 _ _ _ _ (G.blk b s H C cl fp)⟩
    · cases h
  · cases h
theorem cComp_ok (okX : OkX rX) (okT : OkT rT) (G : Good c k X M W) {elt tg it : Expr} {ifs : List Expr} {scope : Scope} {f : Ev R} (h : cComp rX rT c elt tg it ifs scope = some f) :
    PE X (.ListComp elt [⟨tg, it, ifs, 0⟩] scope pos) (LX X.K M W f) := by
  obtain ⟨own, fi, g, t, f0, rfl, b, hs, h1, h2, h3, h4⟩ := cComp_parts okX okT G h
  exact x_comp G.calm G.nd h1 b h2 h3 h4 (notSet_fold hs)
end
end L3

/-! E17: chained comparisons, a list or a tuple from behind, one layer of expressions, expressions. -/
namespace L3
open PySem L2

/-! a op b op' c -/
def evChain (g g' : List D → Option R) (sa sb sc : SA) : Ev R := (evAs [sa, sb]).bind fun rs ρ => match finD ρ rs with
  | none => none
  | some ds => match g ds with
    | some ⟨.bl true, _⟩ => (evAs [sc]).bind (fun rs2 ρ2 => match finD ρ2 (rs.drop 1 ++ rs2) with
      | some ds2 => match g' ds2 with
        | some r => some (.ok r ρ2)
        | none => none
      | none => none) ρ
    | some ⟨.bl false, _⟩ => some (.ok ⟨.bl false, false⟩ ρ)
    | _ => none
section
variable {O : Addr → Prop} {K : Frag} {M : XM} {W : WX} {σ : St} {ρ ρ1 ρ2 : Sls} {H H1 H2 : Hp}
theorem LAs.two {sa sb : SA} {Q : V → V → Hp → Prop} (h : LAs K M W [sa, sb] σ H fun xs H' => ∃ x y, xs = [x, y] ∧ Q x y H') : LA1 K M W sa σ H fun x H1 => LA1 K M W sb σ H1 fun y H2 => Q x y H2 := by
  refine LA1.mono (fun x H1 h1 => ?_) h
  refine LA1.mono (fun y H2 h2 => ?_) h1
  obtain ⟨x', y', e, q⟩ := h2
  cases e
  exact q
theorem ARs.app {xs ys : List V} {rs ts : List (Nat ⊕ D)} (a : ARs O K σ ρ H xs rs) (b : ARs O K σ ρ H ys ts) : ARs O K σ ρ H (xs ++ ys) (rs ++ ts) := by
  induction a with
  | nil => exact b
  | cons h _ ih => exact .cons h ih
theorem ARs.tl {xs : List V} {rs : List (Nat ⊕ D)} (a : ARs O K σ ρ H xs rs) : ARs O K σ ρ H (xs.drop 1) (rs.drop 1) := by
  cases a with
  | nil => exact .nil
  | cons _ h => exact h
theorem chain_ok {r r' : R2} {g g' : List D → Option R} (hp : PrOk K (ru2 r) g) (hp' : PrOk K (ru2 r') g') {sa sb sc : SA} {Q : VK} (h : LX K M W (evChain g g' sa sb sc) σ H Q) : tChain r r' (LA1 K M W sa) (LA1 K M W sb) (LA1 K M W sc) σ H Q := by
  obtain ⟨O, ρ, E, h⟩ := h
  refine LAs.two (args_ok [sa, sb] ρ H _ E ?_)
  refine (Res.bind (f := evAs [sa, sb]) h).mono fun rs ρ1 h1 xs H1 p => ?_
  cases e : finD ρ1 rs with
  | none => simp only [e] at h1; exact h1.elim
  | some ds =>
    simp only [e] at h1
    have fo := fin_ok p.env p.reps e
    have key : ru2 r xs H1 fun z H3 => ∃ k, z = .bl k ∧ if k = true then ∀ y, xs.drop 1 = [y] → LA1 K M W sc σ H3 (fun w H4 => r' y w H4 Q) else Q (.bl false) H3 := by
      split at h1
      · rename_i fr eg
        refine hp (Ow O σ ρ1) H1 xs ds _ _ (fun a z => p.env.owNe z) fo eg fun z H2 q => ?_
        have rz := q.rep
        cases rz
        refine ⟨true, rfl, ?_⟩
        rw [if_pos rfl]
        intro y hy
        have pp := prPost_post p.env q
        refine LA1.one (args_ok [sc] ρ1 H2 _ pp.env ?_)
        refine (Res.bind (f := evAs [sc]) (Res.after (p.ext.trans pp.ext) h1)).mono fun rs2 ρ2 h2 xs2 H3 p2 => ?_
        have ar := fun ds2 => fin_ok (ds := ds2) p2.env (((p.reps.keep pp.ext).keep p2.ext).tl.app p2.reps)
        rw [hy] at ar
        cases e2 : finD ρ2 (rs.drop 1 ++ rs2) with
        | none => simp only [e2] at h2; exact h2.elim
        | some ds2 =>
          simp only [e2] at h2
          cases e3 : g' ds2 with
          | none => simp only [e3] at h2; exact h2.elim
          | some r2 =>
            simp only [e3] at h2
            have z := hp' (Ow O σ ρ2) H3 ([y] ++ xs2) ds2 r2 Q (fun a z => p2.env.owNe z) (ar ds2 e2) e3 fun x H4 q4 =>
              h2 x H4 (((prPost_post p2.env q4).after p2.ext).after (p.ext.trans pp.ext))
            match xs2, z with
            | [w], z => exact ⟨w, rfl, z⟩
      · rename_i fr eg
        refine hp (Ow O σ ρ1) H1 xs ds _ _ (fun a z => p.env.owNe z) fo eg fun z H2 q => ?_
        have rz := q.rep
        cases rz
        refine ⟨false, rfl, ?_⟩
        rw [if_neg (by decide)]
        have pp := prPost_post p.env q
        exact h1 _ H2 (Post.after p.ext ⟨pp.ext, pp.env, .bl _, fun z => nomatch z⟩)
      · exact h1.elim
    match xs, key with
    | [x, y], key =>
      refine ⟨x, y, rfl, ?_⟩
      have k2 : r x y H1 _ := key
      have e5 : (fun (z : V) (H3 : Hp) => ∃ k, z = .bl k ∧ if k = true then ∀ y', [x, y].drop 1 = [y'] → LA1 K M W sc σ H3 (fun w H4 => r' y' w H4 Q) else Q (.bl false) H3) = fun z H3 => ∃ k, z = .bl k ∧ if k = true then LA1 K M W sc σ H3 (fun w H4 => r' y w H4 Q) else Q (.bl false) H3 := by
        funext z H3
        have : (∀ y', [x, y].drop 1 = [y'] → LA1 K M W sc σ H3 (fun w H4 => r' y' w H4 Q)) = LA1 K M W sc σ H3 (fun w H4 => r' y w H4 Q) := propext ⟨fun q => q y rfl, fun q y' hy => by cases hy; exact q⟩
        rw [this]
      rw [e5] at k2
      exact k2
end
end L3

set_option maxRecDepth 100000
/-! E18: t[::-1] of tuples. -/
namespace L3
open PySem PySem.Spec PyProof.Rows L2 HT
section
variable {prog : Program} {w : World} {A : Around} {E : Value → Shared → Prop} {s : Shared}
theorem places_rev (n : Nat) : Builtin.Slice.slicePlaces ((n : Int) - 1) (-1) (-1) = n := by
  unfold Builtin.Slice.slicePlaces
  have h1 : ¬ ((-1 : Int) > 0) := by omega
  simp only [h1, if_false]
  have e : (-(-1) : Int) = 1 := by omega
  rw [e]
  simp only [Int.ediv_one]
  split <;> omega
theorem adjust_rev (n : Nat) : Builtin.Slice.sliceAdjust none none (-1) (n : Int) = ((n : Int) - 1, -1) := by
  unfold Builtin.Slice.sliceAdjust
  have h1 : ((-1 : Int) < 0) := by omega
  simp [h1]
theorem sliceApplied_rev {sl : Addr} {n : Nat} {u : Tok} {Q : Int × Int × Nat → Shared → Prop} (hs : s.heap.IsSliceOf sl .none .none (.int (-1) u)) (h : Q ((n : Int) - 1, -1, n) s) :
    wpAny (model prog w) A (Builtin.Slice.sliceApplied (.ref sl) (pure (n : Int))) Q E s := by
  obtain ⟨os, hos, hcs, hds⟩ := id hs
  unfold Builtin.Slice.sliceApplied Builtin.Slice.sliceFields
  refine wpAny_bind (wpAny_bind (wpAny_field hos hds (x := .none) rfl (wpAny_bind (wpAny_field hos hds (x := .none) rfl (wpAny_bind (wpAny_field hos hds (x := .int (-1) u) rfl (wpAny_pure ?_)))))))
  refine wpAny_bind (slicePart_int ?_)
  show wpAny _ _ (if ((-1 : Int) == 0) = true then _ else _) _ _ s
  rw [if_neg (by decide)]
  refine wpAny_bind (slicePart_none (wpAny_bind (slicePart_none (wpAny_bind (wpAny_pure ?_)))))
  show wpAny _ _ (match Builtin.Slice.sliceAdjust none none (-1) (n : Int) with | (lo, hi) => pure (lo, (-1 : Int), Builtin.Slice.slicePlaces lo hi (-1))) _ _ s
  rw [adjust_rev n]
  show wpAny _ _ (pure ((n : Int) - 1, (-1 : Int), Builtin.Slice.slicePlaces ((n : Int) - 1) (-1) (-1))) _ _ s
  rw [places_rev]
  exact wpAny_pure h
theorem filterMap_same {α β : Type} {f g : α → Option β} : ∀ {l : List α}, (∀ m ∈ l, f m = g m) → l.filterMap f = l.filterMap g
  | [], _ => rfl
  | a :: l, h => by
    rw [List.filterMap_cons, List.filterMap_cons, h a List.mem_cons_self, filterMap_same fun m hm => h m (List.mem_cons_of_mem _ hm)]
theorem pick_rev (xs : Array Value) : ((List.range xs.size).filterMap fun (m : Nat) => xs[(((xs.size : Int) - 1) + (m : Int) * (-1)).toNat]?).toArray = xs.toList.reverse.toArray := by
  rw [← PySem.W.krv_all xs, ← List.filterMap_reverse, ← PySem.W.krv_range, List.filterMap_map]
  refine congrArg List.toArray (filterMap_same fun m hm => ?_)
  have := List.mem_range.mp hm
  show xs[(((xs.size : Int) - 1) + (m : Int) * (-1)).toNat]? = xs[xs.size - 1 - m]?
  have e : (((xs.size : Int) - 1) + (m : Int) * (-1)).toNat = xs.size - 1 - m := by omega
  rw [e]
theorem getItem_tuple_rev {t sl : Addr} {items : Array Value} {u : Tok} {Q : Value → Shared → Prop} (ht : IsTup s.heap t items) (hs : s.heap.IsSliceOf sl .none .none (.int (-1) u))
    (h : Q (.ref s.heap.objs.size) { s with heap := s.heap.push { cls := .type "tuple", data := .seq items.toList.reverse.toArray } })
    (hsz : items.size ≤ sizeLine) : wpAny (model prog w) A (getItem (.ref t) (.ref sl)) Q E s := by
  have htake : sizeOk (.seq items.toList.reverse.toArray) := by
    show items.toList.reverse.toArray.size ≤ sizeLine
    rw [List.size_toArray, List.length_reverse, Array.length_toList]
    exact hsz
  obtain ⟨os, hos, hcs, hds⟩ := id hs
  have hTs : s.TypeIs (.ref sl) "slice" := ⟨os, hos, hcs⟩
  unfold getItem
  try with_reducible refine wpAny_holding ?_
  first | refine wpAny_bind (wpAny_pure ?_) | skip
  refine wpAny_bind (wpAny_sequenceKey ht.typeIs (by decide) ?_)
  refine wpAny_bind (wpAny_callSpecial?_slot (name := Str.ofString "__getitem__") ht.typeIs PyProof.Rows.slot_tuple_getitem
    (wpAny_call_entry PyProof.Rows.slot_tuple_getitem ht.typeIs entry_tuple_getitem ?_ (args_tuple_getitem _ _)))
  show wpAny _ _ (Builtin.Tuple.tupleItemsOf (.ref t) >>= _) _ _ s
  refine wpAny_bind (tupleItemsOf_ ht ?_)
  refine wpAny_bind (wpAny_typeOf hTs ?_)
  rw [if_pos (by decide)]
  refine wpAny_bind (sliceApplied_rev hs ?_)
  have hno : ¬ ((((items.size : Int) - 1) == 0 && (-1 : Int) == 1 && items.size == items.size) = true) := by
    intro q
    rw [Bool.and_eq_true, Bool.and_eq_true] at q
    exact absurd q.1.2 (by decide)
  show wpAny _ _ (if ((((items.size : Int) - 1) == 0 && (-1 : Int) == 1 && items.size == items.size) = true) then _ else _) _ _ s
  rw [if_neg hno, pick_rev]
  first
    | exact wpAny_bind (m := Builtin.Tuple.tupleExact _) (wpAny_newObj_type (wpAny_pure ⟨_, rfl, wpAny_pure h⟩) htake)
    | exact wpAny_bind (m := Builtin.Tuple.tupleExact _) (wpAny_newObj_type (wpAny_bind (wpAny_pure (wpAny_pure ⟨_, rfl, wpAny_pure h⟩))) htake)
    | exact wpAny_bind (wpAny_bind (m := Builtin.Tuple.tupleExact _) (wpAny_newObj_type (wpAny_pure (wpAny_pure ⟨_, rfl, wpAny_pure h⟩)) htake))
    | exact wpAny_bind (wpAny_bind (m := Builtin.Tuple.tupleExact _) (wpAny_newObj_type (wpAny_pure ⟨_, rfl, wpAny_pure h⟩) htake))
end
section
variable {X : Cx}
def tRevA (K : PySem.W.Frag) (te : TE) : TE := fun σ H Q => te σ H fun x H1 => ∃ a xs, x = .ref a ∧ ((SqL K H1 a xs ∧ ∀ p, H1 p = none → Q (.ref p) (upd H1 p (.lst xs.reverse))) ∨ (SqT K H1 a xs ∧ ∀ p, H1 p = none → Q (.ref p) (upd H1 p (.tup xs.reverse))))
theorem pe_revA {e : Expr} {te : TE} {k : Nat} {p1 p2 p3 pos : Pos} (he : PE X e te) : PE X (.Subscript e (.Slice none none (some (.UnaryOp .USub (.Constant (.int 1) k p1) p2)) p3) pos) (tRevA X.K te) := by
  refine ⟨fun pins s σ H Q I h => ?_⟩
  refine Subscript_ (thn (he.run pins s σ H _ I h) fun v s1 ⟨x, H1, I1, r1, q1⟩ => ?_)
  obtain ⟨a, xs, ex, q⟩ := q1
  subst ex
  cases r1
  have hst : PO X (some (.UnaryOp .USub (.Constant (.int 1) k p1) p2)) (tPart (tUn (rU fun i => .int (-i)) (tC (.int 1)))) := po_some (pe_un un_neg pe_int)
  refine wpAny_Slice (thn (po_none.run pins s1 σ H1 (fun o H2 => o = none ∧ H2 = H1) I1 ⟨rfl, rfl⟩) fun vl s2 ⟨l, H2, I2, pl, el, e2⟩ => ?_)
  subst el e2
  refine thn (po_none.run pins s2 σ H2 (fun o H3 => o = none ∧ H3 = H2) I2 ⟨rfl, rfl⟩) fun vu s3 ⟨u, H3, I3, pu, eu, e3⟩ => ?_
  subst eu e3
  refine thn (hst.run pins s3 σ H3 (fun o H4 => o = some (-1) ∧ H4 = H3) I3 ⟨1, rfl, -1, rfl, rfl, rfl⟩) fun vs s4 ⟨o, H4, I4, ps, eo, e4⟩ => ?_
  subst eo e4
  have I5 : Inv X pins σ H4 { s4 with heap := s4.heap.push { cls := .type "slice", data := .fields #[vl, vu, vs] } } := I4.kept (t' := s4.toks) fun b ob q => Heap.get?_push_of_some _ q
  show wpAny (model X.prog X.w) X.A (subscriptTail e (.Slice none none (some (.UnaryOp .USub (.Constant (.int 1) k p1) p2)) p3) (.ref a) (.ref s4.heap.objs.size)) (EP X pins σ Q) X.xe { s4 with heap := s4.heap.push { cls := .type "slice", data := .fields #[vl, vu, vs] } }
  rcases q with ⟨hx, q⟩ | ⟨hx, q⟩
  · obtain ⟨its, r, ht, hz⟩ := I5.list hx
    have hlen := r.length
    refine tail_any (ops := [.ref a, .ref s4.heap.objs.size]) ht.isList.typeIs (PySem.slot_list_getitem.lookup) ?_ (by with_unfolding_all rfl)
    refine wpAny_getItem_list_slice ht.isList (Heap.IsSliceOf.new _ vl vu vs) pl pu ps (by decide) ?_ (by rw [List.size_toArray]; omega)
    rw [PySem.W.krv_pick]
    refine ⟨.ref _, _, I5.laid (t' := s4.toks) (o := .lst xs.reverse) (fun b ob q => Heap.get?_push_of_some _ q) (Nat.le_refl _) ?_, rfl, q _ (I5.hok.fresh (Nat.le_refl _))⟩
    exact ⟨by rw [List.length_reverse]; exact hz, _, 0, r.reverse, Heap.get?_push_size _ rfl⟩
  · obtain ⟨its, r, ht, hz⟩ := I5.tuple hx
    have hlen := r.length
    cases pl
    cases pu
    cases ps
    refine tail_any (ops := [.ref a, .ref s4.heap.objs.size]) ht.typeIs (PyProof.Rows.slot_tuple_getitem.lookup) ?_ (by with_unfolding_all rfl)
    refine getItem_tuple_rev ht (Heap.IsSliceOf.new _ _ _ _) ?_ (by rw [List.size_toArray]; omega)
    refine ⟨.ref _, _, I5.laid (t' := s4.toks) (o := .tup xs.reverse) (fun b ob q => Heap.get?_push_of_some _ q) (Nat.le_refl _) ?_, rfl, q _ (I5.hok.fresh (Nat.le_refl _))⟩
    exact ⟨by rw [List.length_reverse]; exact hz, _, r.reverse, IsTup.new _ _⟩
end
end L3

/-! E18b: list(range(..)), tuple(range(..)). -/
namespace L3
open PySem L2
def rgB (a b : Int) : Bool := decide (-4611686018427387904 ≤ a) && decide (a < 4611686018427387904) && decide (-4611686018427387904 ≤ b) && decide (b < 4611686018427387904) && Nat.ble (b - a).toNat LIM
theorem rgB_of {a b : Int} (h : rgB a b = true) : RgOk a b := by
  unfold rgB at h
  simp only [Bool.and_eq_true, decide_eq_true_eq] at h
  exact ⟨h.1.1.1.1, h.1.1.1.2, h.1.1.2, h.1.2, Nat.le_of_ble_eq_true h.2⟩
def gTupRg : List D → Option R
  | [.int n] => gd (rgB 0 n) ⟨.tup (rgD 0 1 (n - 0).toNat), false⟩
  | [.int a, .int b] => gd (rgB a b) ⟨.tup (rgD a 1 (b - a).toNat), false⟩
  | _ => none
def gLstRg : List D → Option R
  | [.int n] => gd (rgB 0 n) ⟨.lst (rgD 0 1 (n - 0).toNat), true⟩
  | [.int a, .int b] => gd (rgB a b) ⟨.lst (rgD a 1 (b - a).toNat), true⟩
  | _ => none
theorem reps_rg {O K H} (a b : Int) : Reps O K H (rgV a b) (rgD a 1 (b - a).toNat) := by
  have go : ∀ l : List Nat, Reps O K H (l.map fun i => V.int (a + (i : Nat))) (l.map fun i => D.int (a + (i : Nat) * 1)) := fun l => by
    induction l with
    | nil => exact .nil
    | cons i l ih => exact .cons (by show Rep O K H (V.int (a + (i : Nat))) (D.int (a + (i : Nat) * 1)); rw [Int.mul_one]; exact .int _) ih
  exact go _
def ruRg (mk : List V → HO) : RuL := fun xs H Q => match xs with
  | [x] => ∃ n, x = V.int n ∧ RgOk 0 n ∧ ∀ q, H q = none → Q (.ref q) (upd H q (mk (rgV 0 n)))
  | [x, y] => ∃ i j, x = V.int i ∧ y = V.int j ∧ RgOk i j ∧ ∀ q, H q = none → Q (.ref q) (upd H q (mk (rgV i j)))
  | _ => False
theorem pr_tupRg {K : Frag} : PrOk K (ruRg .tup) gTupRg := by
  intro O H xs ds r Q out hr hg q
  unfold gTupRg at hg
  split at hg
  · obtain ⟨x, rfl, h1⟩ := hr.one
    obtain ⟨c, rfl⟩ := gd_some hg
    exact ⟨_, h1.int, rgB_of c, fun p hp => q _ _ (prTup out hp (reps_rg _ _))⟩
  · obtain ⟨x, y, rfl, h1, h2⟩ := hr.two
    obtain ⟨c, rfl⟩ := gd_some hg
    exact ⟨_, _, h1.int, h2.int, rgB_of c, fun p hp => q _ _ (prTup out hp (reps_rg _ _))⟩
  · cases hg
theorem pr_lstRg {K : Frag} : PrOk K (ruRg .lst) gLstRg := by
  intro O H xs ds r Q out hr hg q
  unfold gLstRg at hg
  split at hg
  · obtain ⟨x, rfl, h1⟩ := hr.one
    obtain ⟨c, rfl⟩ := gd_some hg
    exact ⟨_, h1.int, rgB_of c, fun p hp => q _ _ (prLst out hp (reps_rg _ _))⟩
  · obtain ⟨x, y, rfl, h1, h2⟩ := hr.two
    obtain ⟨c, rfl⟩ := gd_some hg
    exact ⟨_, _, h1.int, h2.int, rgB_of c, fun p hp => q _ _ (prLst out hp (reps_rg _ _))⟩
  · cases hg
def cConv (rX : RX) (c : Cc) (x : Str) (args : List Expr) : Option (Ev R) := match args with
  | [.Call (.Name r _) as [] _] => match isBl c r "range", isBl c x x, as with
    | true, true, [a] => match cL (cA rX c) [a], decide (x = "tuple"), decide (x = "list") with
      | some ss, true, _ => some (evPr gTupRg ss)
      | some ss, _, true => some (evPr gLstRg ss)
      | _, _, _ => none
    | true, true, [a, b] => match cL (cA rX c) [a, b], decide (x = "tuple"), decide (x = "list") with
      | some ss, true, _ => some (evPr gTupRg ss)
      | some ss, _, true => some (evPr gLstRg ss)
      | _, _, _ => none
    | _, _, _ => none
  | _ => none
section
variable {c : Cc} {k : Nat} {X : Cx} {M : XM} {W : WX} {rX : RX} {p pos : Pos}
theorem cConv_ok (ok : OkX rX) (G : Good c k X M W) {x : Str} {args : List Expr} {f : Ev R} (h : cConv rX c x args = some f) : PE X (.Call (.Name x p) args [] pos) (LX X.K M W f) := by
  unfold cConv at h
  split at h
  · rename_i r pr as pc
    split at h
    · rename_i a h1 h2
      obtain ⟨rfl, g1, g2, g3⟩ := G.bl h1
      obtain ⟨_, k1, k2, k3⟩ := G.bl h2
      split at h
      · rename_i ss e1 e2
        cases h
        have e2 := of_decide_eq_true e2
        subst e2
        obtain ⟨s, rfl⟩ : ∃ s, ss = [s] := List.length_eq_one_iff.mp (cL_len e1)
        obtain ⟨pa, st, _⟩ := cL_ok (fun e s h => cA_ok (M := M) (W := W) ok G h) e1
        have q : cA rX c a = some s := cL_get e1 (i := 0) rfl rfl
        exact peImp (pe_tupRg G.calm k1 k2 (prg_1 g1 g2 (cA_ok ok G q).1 (star_cons (cA_ok (M := M) (W := W) ok G q).2)) (star_cons rfl)) fun σ H Q z => by
          have z1 := prim_ok pr_tupRg z
          refine LA1.mono (fun y H' w => ?_) z1
          obtain ⟨n, w1, w2, w3⟩ := w
          exact ⟨n, w1, w2, w3⟩
      · rename_i ss e1 e2 _
        cases h
        have e2 := of_decide_eq_true e2
        subst e2
        obtain ⟨s, rfl⟩ : ∃ s, ss = [s] := List.length_eq_one_iff.mp (cL_len e1)
        have q : cA rX c a = some s := cL_get e1 (i := 0) rfl rfl
        exact peImp (pe_listRg G.calm k1 k2 (prg_1 g1 g2 (cA_ok ok G q).1 (star_cons (cA_ok (M := M) (W := W) ok G q).2)) (star_cons rfl)) fun σ H Q z => by
          have z1 := prim_ok pr_lstRg z
          refine LA1.mono (fun y H' w => ?_) z1
          obtain ⟨n, w1, w2, w3⟩ := w
          exact ⟨n, w1, w2, w3⟩
      · cases h
    · rename_i a b h1 h2
      obtain ⟨rfl, g1, g2, g3⟩ := G.bl h1
      obtain ⟨_, k1, k2, k3⟩ := G.bl h2
      have two : ∀ {ss : List SA}, ss.length = 2 → ∃ s t, ss = [s, t] := fun {ss} h => match ss, h with
        | [s, t], _ => ⟨s, t, rfl⟩
      split at h
      · rename_i ss e1 e2
        cases h
        have e2 := of_decide_eq_true e2
        subst e2
        obtain ⟨s, t, rfl⟩ := two (cL_len e1)
        have q : cA rX c a = some s := cL_get e1 (i := 0) rfl rfl
        have q2 : cA rX c b = some t := cL_get e1 (i := 1) rfl rfl
        exact peImp (pe_tupRg G.calm k1 k2 (prg_2 g1 g2 (cA_ok ok G q).1 (cA_ok ok G q2).1 (star_cons (cA_ok (M := M) (W := W) ok G q).2) (star_cons (cA_ok (M := M) (W := W) ok G q2).2) (star_any (by simp [(cA_ok (M := M) (W := W) ok G q2).2]))) (star_cons rfl)) fun σ H Q z => by
          have z1 := prim_ok pr_tupRg z
          refine LA1.mono (fun y H' w => LA1.mono (fun u H2 w => ?_) w) z1
          obtain ⟨n, m, w1, w2, w3, w4⟩ := w
          exact ⟨n, m, w1, w2, w3, w4⟩
      · rename_i ss e1 e2 _
        cases h
        have e2 := of_decide_eq_true e2
        subst e2
        obtain ⟨s, t, rfl⟩ := two (cL_len e1)
        have q : cA rX c a = some s := cL_get e1 (i := 0) rfl rfl
        have q2 : cA rX c b = some t := cL_get e1 (i := 1) rfl rfl
        exact peImp (pe_listRg G.calm k1 k2 (prg_2 g1 g2 (cA_ok ok G q).1 (cA_ok ok G q2).1 (star_cons (cA_ok (M := M) (W := W) ok G q).2) (star_cons (cA_ok (M := M) (W := W) ok G q2).2) (star_any (by simp [(cA_ok (M := M) (W := W) ok G q2).2]))) (star_cons rfl)) fun σ H Q z => by
          have z1 := prim_ok pr_lstRg z
          refine LA1.mono (fun y H' w => LA1.mono (fun u H2 w => ?_) w) z1
          obtain ⟨n, m, w1, w2, w3, w4⟩ := w
          exact ⟨n, m, w1, w2, w3, w4⟩
      · cases h
    · cases h
  · cases h
end
end L3

/-! E15b: isinstance with classes of the program, fields of errors; what may stand in an except suite. -/
namespace L3
open PySem L2
def cTq (c : Cc) (x : Str) : Option Tq := match tyOf x with
  | some t => match isBl c x x with
    | true => some (.ty t)
    | false => none
  | none => match isBl c x x with
    | true => if x = "LookupError" then some (.exc true) else if x = "ValueError" then some (.exc false) else none
    | false => match glob c x && c.exs.names.contains x with
      | true => some (.own x)
      | false => none
def cTqs (c : Cc) : List Expr → Option (List Tq)
  | [] => some []
  | .Name x _ :: es => match cTq c x, cTqs c es with
    | some t, some ts => some (t :: ts)
    | _, _ => none
  | _ :: _ => none
section
variable {c : Cc} {k : Nat} {X : Cx} {M : XM} {W : WX} {rX : RX} {p pos : Pos}
theorem cTq_ok (G : GoodH c X) {x : Str} {q : Tq} (h : cTq c x = some q) : ∃ cv u, TqV X.K q cv u ∧ PE X (.Name x p) (tC cv) ∧ okQ c.exs q = true := by
  unfold cTq at h
  split at h
  · rename_i t ht
    split at h
    · rename_i hb
      cases h
      obtain ⟨_, g2, g3, g4⟩ := G.bl hb
      obtain ⟨n1, n2⟩ := tyOf_ok ht
      exact ⟨_, _, .ty t, pe_bltn g2 g3 n2 rfl n1 g4, rfl⟩
    · cases h
  · split at h
    · rename_i hb
      obtain ⟨_, g2, g3, g4⟩ := G.bl hb
      split at h
      · rename_i e
        cases h; subst e
        exact ⟨_, _, .exc true, pe_bltn (u := .type "LookupError") g2 g3 (by decide +kernel) rfl (by decide) g4, rfl⟩
      · split at h
        · rename_i e
          cases h; subst e
          exact ⟨_, _, .exc false, pe_bltn (u := .type "ValueError") g2 g3 (by decide +kernel) rfl (by decide) g4, rfl⟩
        · cases h
    · split at h
      · rename_i hb
        cases h
        rw [Bool.and_eq_true] at hb
        obtain ⟨lk, fs, hl⟩ := has_lookup hb.2
        obtain ⟨C, h1, T⟩ := G.exs.at x lk fs hl
        obtain ⟨g1, g2⟩ := G.gl hb.1
        exact ⟨_, _, .own h1, pe_glob g1 T.gC rfl g2, hb.2⟩
      · cases h
/-- the reading of names of classes -/
def tTqs : List V → TA
  | [] => tNil
  | t :: ts => tCons (tC t) (tTqs ts)
theorem tTqs_run {ts : List V} : ∀ {σ : St} {H : Hp} {Q : List V → Hp → Prop}, Q ts H → tTqs ts σ H Q := by
  induction ts with
  | nil => intro σ H Q h; exact h
  | cons t ts ih => intro σ H Q h; exact ih h
theorem cTqs_ok (G : GoodH c X) : ∀ {es : List Expr} {qs : List Tq}, cTqs c es = some qs → ∃ cs us, TqVs X.K qs cs us ∧ PA X es (tTqs cs) ∧ ∀ q ∈ qs, okQ c.exs q = true
  | [], qs, h => by cases h; exact ⟨[], [], .nil, pa_nil, fun q hq => nomatch hq⟩
  | e :: es, qs, h => by
    cases e with
    | Name x p =>
      simp only [cTqs] at h
      split at h
      · rename_i q qs' h1 h2
        cases h
        obtain ⟨cv, u, g1, g2, g3⟩ := cTq_ok (p := p) G h1
        obtain ⟨cs, us, g4, g5, g6⟩ := cTqs_ok G h2
        refine ⟨cv :: cs, u :: us, .cons g1 g4, pa_cons g2 g5 rfl, fun q' hq => ?_⟩
        rcases List.mem_cons.mp hq with rfl | hq
        · exact g3
        · exact g6 _ hq
      · cases h
    | _ => cases h
/-- isinstance(a, classes), a an operand that was compiled -/
def cIsi (c : Cc) (x : Str) (cl : Expr) (s : SA) : Option (Ev R) := match decide (x = "isinstance") && isBl c x x with
  | true => match cl with
    | .Name T _ => (cTq c T).map fun q => evPr (gIsC c.exs [q]) [s]
    | .Tuple es _ _ => match cTqs c es with
      | some qs => match Nat.ble qs.length 100 with
        | true => some (evPr (gIsC c.exs qs) [s])
        | false => none
      | none => none
    | _ => none
  | false => none
theorem cIsi_ok (G : GoodH c X) {x : Str} {a cl : Expr} {s : SA} {f : Ev R} (pa : PArg X M W a s) (sa : noStar a = true) (h : cIsi c x cl s = some f) : PE X (.Call (.Name x p) [a, cl] [] pos) (LX X.K M W f) := by
  unfold cIsi at h
  split at h
  · rename_i hx
    simp only [Bool.and_eq_true, decide_eq_true_eq] at hx
    obtain ⟨rfl, hb⟩ := hx
    obtain ⟨_, g1, g2, g3⟩ := G.bl hb
    split at h
    · rename_i T pT
      simp only [Option.map_eq_some_iff] at h
      obtain ⟨q, h1, rfl⟩ := h
      obtain ⟨cv, u, g4, g5, g6⟩ := cTq_ok (p := pT) G h1
      refine peImp (pe_callB call_isC g1 g2 (by decide +kernel) (pa_cons pa (pa_cons g5 pa_nil rfl) (star_cons sa)) (by decide) g3 (star_cons sa) (star_any (by rfl))) fun σ H Q q' => ?_
      have q2 : LAs X.K M W [s] σ H (fun xs H1 => ruIsC1 X.K q xs H1 Q) := prim_ok (pr_isC1 G.exs g6) q'
      exact LA1.mono (fun x H1 z => z cv u g4) q2
    · rename_i es k2 p2
      split at h
      · rename_i qs h1
        split at h
        · rename_i hl
          cases h
          obtain ⟨cs, us, g4, g5, g6⟩ := cTqs_ok G h1
          refine peImp (pe_callB call_isCT g1 g2 (by decide +kernel) (pa_cons pa (pa_cons (pe_tup g5) pa_nil rfl) (star_cons sa)) (by decide) g3 (star_cons sa) (star_any (by rfl))) fun σ H Q q' => ?_
          have q2 : LAs X.K M W [s] σ H (fun xs H1 => ruIsCT X.K qs xs H1 Q) := prim_ok (pr_isCT G.exs (Nat.le_of_ble_eq_true hl) g6) q'
          exact LA1.mono (fun x H1 z => tTqs_run (z cs us g4)) q2
        · cases h
      · cases h
    · cases h
  · cases h
/-- x.f -/
theorem x_attr (G : GoodH c X) {x f : Str} {s : SA} (pa : PArg X M W (.Name x p) s) : PE X (.Attribute (.Name x p) f pos) (LX X.K M W (evPr (gAttr c.exs f) [s])) := by
  refine peImp (t := fun σ H Q => LA1 X.K M W s σ H fun v H1 => ruAttr X.K f [v] H1 Q) ⟨fun pins s' σ H Q I h => ?_⟩ fun σ H Q q => ?_
  · refine attr_of rfl (thn (pa.run pins s' σ H _ I h) fun u s1 hh => ?_)
    obtain ⟨x0, H1, I1, rx, a, C, da, gs, v, mg, lk, nm, fs, rfl, ea, ed, el, T, hf, q⟩ := hh
    obtain rfl : u = Value.ref a := rx
    obtain ⟨⟨oe, vs, h1, h2, h3⟩, _⟩ := (show ObjOk X.prog X.w H1 s1.heap a (exoV a C (some da)) from I1.hok a _ ea)
    obtain ⟨mA, hns, hr⟩ := (show ObjOk X.prog X.w H1 s1.heap da (.xd gs) from I1.hok da _ ed)
    obtain ⟨od, ho, hl⟩ := lookIn_ns hns
    obtain ⟨u, hu, ru⟩ := RelO.some_of (v := v) (o := mA f) (by rw [← el]; exact hr f)
    have J : PySem.W.InstAt s1.heap a oe C (some od) := ⟨h1, h2.1, by unfold PySem.W.notCls; rw [h3], by rw [h2.2]; exact ho⟩
    exact PySem.HandSPX.exc_get I1.kIn J T.xc.hg T.xc.hk T.xc.hs (PySem.W.findObj_own T.xc.hd (T.no f hf) rfl (by rw [hl, hu])) (handed_of ru) ⟨v, H1, I1.tok _, ru, q⟩
  · exact prim_ok (pr_attr G.exs) q
/-! what may stand in an except suite -/
def cES (c : Cc) : Expr → Option (Ev R)
  | .Constant v _ _ => (cConst v).map evK
  | .Name x _ => (slotOf c x).map evSl
  | .Attribute (.Name x _) f _ => (slotOf c x).map fun i => evPr (gAttr c.exs f) [.late i]
  | .Call (.Name g _) [.Name x _, cl] [] _ => match slotOf c x with
    | some i => cIsi c g cl (.late i)
    | none => none
  | _ => none
def cESs (c : Cc) : List Expr → Option (List SA)
  | [] => some []
  | e :: es => match noStar e, cES c e, cESs c es with
    | true, some f, some ss => some (.e f :: ss)
    | _, _, _ => none
def cEL (c : Cc) (e : Expr) : Option (Ev R) := match e with
  | .List es _ => (cESs c es).map fun ss => evPr gLst ss
  | e => cES c e
theorem cConst_okH {v : Const} {d : D} {j : Nat} (h : cConst v = some d) : PE X (.Constant v j pos) (LX X.K M W (evK d)) := by
  cases v <;> simp only [cConst, Option.some.injEq, reduceCtorEq] at h <;> subst h
  · exact x_non
  · exact x_bl
  · exact x_int
  · exact x_str
theorem cES_ok (G : GoodH c X) {e : Expr} {f : Ev R} (h : cES c e = some f) : PE X e (LX X.K M W f) := by
  unfold cES at h
  split at h
  · simp only [Option.map_eq_some_iff] at h
    obtain ⟨d, h1, rfl⟩ := h
    exact cConst_okH h1
  · simp only [Option.map_eq_some_iff] at h
    obtain ⟨i, h1, rfl⟩ := h
    obtain ⟨g1, g2, g3, g4⟩ := G.vis h1
    exact x_sl g1 g2 g3 g4
  · simp only [Option.map_eq_some_iff] at h
    obtain ⟨i, h1, rfl⟩ := h
    obtain ⟨g1, g2, g3, g4⟩ := G.vis h1
    exact x_attr G (x_late g1 g2 g3 g4)
  · split at h
    · rename_i i h1
      obtain ⟨g1, g2, g3, g4⟩ := G.vis h1
      exact cIsi_ok G (x_late g1 g2 g3 g4) rfl h
    · cases h
  · cases h
theorem cESs_ok (G : GoodH c X) : ∀ {es : List Expr} {ss : List SA}, cESs c es = some ss → PA X es (LAs X.K M W ss) ∧ allE ss = true
  | [], ss, h => by cases h; exact ⟨xa_nil, rfl⟩
  | e :: es, ss, h => by
    unfold cESs at h
    split at h
    · rename_i f ss' h1 h2 h3
      cases h
      obtain ⟨g1, g2⟩ := cESs_ok G h3
      exact ⟨xa_cons (sa := .e f) (cES_ok G h2) g1 (star_cons h1), g2⟩
    · cases h
theorem cEL_ok (G : GoodH c X) {e : Expr} {f : Ev R} (h : cEL c e = some f) : PE X e (LX X.K M W f) := by
  unfold cEL at h
  split at h
  · simp only [Option.map_eq_some_iff] at h
    obtain ⟨ss, h1, rfl⟩ := h
    obtain ⟨g1, g2⟩ := cESs_ok (M := M) (W := W) G h1
    exact x_lst g2 g1
  · exact cES_ok G h
end
end L3

/-! E19: one layer of expressions, expressions. -/
namespace L3
open PySem L2

def gRevA : List D → Option R
  | [.tup ds] => some ⟨.tup ds.reverse, false⟩
  | [d] => match d.ls with
    | some ds => some ⟨.lst ds.reverse, true⟩
    | none => none
  | _ => none
theorem pr_revA {K : Frag} : PrOk K (ru1 fun x H Q => ∃ a xs, x = V.ref a ∧ ((SqL K H a xs ∧ ∀ p, H p = none → Q (.ref p) (upd H p (.lst xs.reverse))) ∨ (SqT K H a xs ∧ ∀ p, H p = none → Q (.ref p) (upd H p (.tup xs.reverse))))) gRevA := by
  intro O H xs ds r Q out hr hg q
  unfold gRevA at hg
  split at hg
  · cases hg
    obtain ⟨x, rfl, h1⟩ := hr.one
    obtain ⟨a, ys, rfl, t, hr, _⟩ := h1.tup
    exact ⟨a, ys, rfl, .inr ⟨t.sq, fun p hp => q _ _ (prTup out hp hr.rev)⟩⟩
  · obtain ⟨x, rfl, h1⟩ := hr.one
    split at hg
    · rename_i es ee
      cases hg
      obtain ⟨a, ys, rfl, hs, hr⟩ := h1.ls ee
      exact ⟨a, ys, rfl, .inl ⟨hs, fun p hp => q _ _ (prLst out hp hr.rev)⟩⟩
    · cases hg
  · cases hg

/-! or, and -/
def cBo (f : Expr → Option (Ev R)) (op : BoolOp) : List Expr → Option (Ev R)
  | [] => none
  | [e] => f e
  | e :: es => match f e, cBo f op es with
    | some a, some b => match op with
      | .And => some (evAnd a b)
      | .Or => some (evOr a b)
    | _, _ => none
def cBoT (f : Expr → Option (Ev Bool)) (op : BoolOp) : List Expr → Option (Ev Bool)
  | [] => none
  | [e] => f e
  | e :: es => match f e, cBoT f op es with
    | some a, some b => match op with
      | .And => some (evAndT a b)
      | .Or => some (evOrT a b)
    | _, _ => none
section
variable {c : Cc} {k : Nat} {X : Cx} {M : XM} {W : WX} {rX : RX} {rT : RT} {p pos : Pos}
theorem cBo_ok {g : Expr → Option (Ev R)} {op : BoolOp} (ok : ∀ e f, g e = some f → PE X e (LX X.K M W f)) : ∀ {es : List Expr} {f : Ev R}, cBo g op es = some f → PE X (.BoolOp op es pos) (LX X.K M W f)
  | [], f, h => by cases h
  | [e], f, h => pe_one (ok _ _ h)
  | e :: e2 :: es, f, h => by
    simp only [cBo] at h
    split at h
    · rename_i a b h1 h2
      have ih := cBo_ok (op := op) ok h2
      cases op with
      | And => cases h; exact peImp (pe_andT (ok _ _ h1) ih) fun _ _ _ q => and_ok q
      | Or => cases h; exact peImp (pe_orT (ok _ _ h1) ih) fun _ _ _ q => or_ok q
    · cases h
theorem cBoT_ok {g : Expr → Option (Ev Bool)} {op : BoolOp} (ok : ∀ e f, g e = some f → PT X e (LT X.K M W f)) : ∀ {es : List Expr} {f : Ev Bool}, cBoT g op es = some f → PW X (.BoolOp op es pos) (LT X.K M W f)
  | [], f, h => by cases h
  | [e], f, h => tw_one (ok _ _ h)
  | e :: e2 :: es, f, h => by
    simp only [cBoT] at h
    split at h
    · rename_i a b h1 h2
      have ih := cBoT_ok (op := op) ok h2
      cases op with
      | And => cases h; exact tw_and (ok _ _ h1) ih
      | Or => cases h; exact tw_or (ok _ _ h1) ih
    · cases h
theorem LO_ok {o : Option Expr} {f : Option (Ev R)} (ok : OkX rX) (G : Good c k X M W) (h : cOpt rX c o = some f) : PO X o (LO X.K M W f) := by
  cases o with
  | none => cases h; exact po_none
  | some e =>
    simp only [cOpt, Option.map_eq_some_iff] at h
    obtain ⟨g, h1, rfl⟩ := h
    exact po_some (ok _ _ _ h1 _ _ _ _ G)
end

/-! methods -/
def cMeth (rX : RX) (c : Cc) (x m : Str) (args : List Expr) (l1 l2 : Nat) : Option (Ev R) := match slotOf c x, Nat.beq l1 l2 with
  | some i, true => match decide (m = "append"), args with
    | true, [e] => match cV rX c e with
      | some (.e f) => some (evAppend i f)
      | _ => none
    | _, args => match decide (m = "pop"), args with
      | true, [] => some (evPop i)
      | _, _ => none
  | _, _ => none
section
variable {c : Cc} {k : Nat} {X : Cx} {M : XM} {W : WX} {rX : RX} {rT : RT} {p pos apos : Pos}
theorem cMeth_ok (ok : OkX rX) (G : Good c k X M W) {x m : Str} {args : List Expr} {f : Ev R} (h : cMeth rX c x m args apos.endLine pos.line = some f) : PE X (.Call (.Attribute (.Name x p) m apos) args [] pos) (LX X.K M W f) := by
  unfold cMeth at h
  split at h
  · rename_i i h1 h2
    obtain ⟨g1, g2, g3, g4⟩ := G.vis h1
    have hl : (apos.endLine == pos.line) = true := by rw [Nat.eq_of_beq_eq_true h2]; exact beq_self_eq_true _
    split at h
    · rename_i e hm
      have hm := of_decide_eq_true hm
      subst hm
      split at h
      · rename_i f0 hf
        cases h
        obtain ⟨⟨pa, st⟩, _⟩ := cV_ok (M := M) (W := W) ok G hf
        refine x_append g1 g2 g3 g4 (xa_cons pa xa_nil (star_cons st)) ?_ hl (star_cons st) (by rfl)
        rw [star_cons st]; rfl
      · cases h
    · split at h
      · rename_i hm _
        have hm := of_decide_eq_true hm
        subst hm
        cases h
        exact x_pop g1 g2 g3 g4 hl
      · cases h
  · cases h
end

/-- isinstance, classes of the program among those asked for -/
def cIsiA (rX : RX) (c : Cc) (x : Str) (args : List Expr) : Option (Ev R) := match args with
  | [a, cl] => match cA rX c a with
    | some s => cIsi c x cl s
    | none => none
  | _ => none
theorem cIsiA_ok {c : Cc} {k : Nat} {X : Cx} {M : XM} {W : WX} {rX : RX} {p pos : Pos} (ok : OkX rX) (G : Good c k X M W) {x : Str} {args : List Expr} {f : Ev R} (h : cIsiA rX c x args = some f) : PE X (.Call (.Name x p) args [] pos) (LX X.K M W f) := by
  unfold cIsiA at h
  split at h
  · split at h
    · rename_i s h1
      obtain ⟨pa, sa⟩ := cA_ok (M := M) (W := W) ok G h1
      exact cIsi_ok G.toGoodH pa sa h
    · cases h
  · cases h
/-! one layer -/
def isRev : Expr → Bool
  | .Slice none none (some (.UnaryOp .USub (.Constant (.int 1) _ _) _)) _ => true
  | _ => false
def cIx (rX : RX) (c : Cc) (a ix : Expr) : Option (Ev R) := match ix with
  | .Slice lo hi none _ => match cA rX c a, cOpt rX c lo, cOpt rX c hi with
    | some s, some l, some h => some (evSli s l h)
    | _, _, _ => none
  | .Slice none none (some (.UnaryOp .USub (.Constant (.int 1) _ _) _)) _ => (cA rX c a).map fun s => evPr gRevA [s]
  | ix => match notSlice ix, cA rX c a, cA rX c ix with
    | true, some sa, some sb => some (evPr gIx [sa, sb])
    | _, _, _ => none
def cCmpV (rX : RX) (c : Cc) (a : Expr) (ops : List CmpOp) (bs : List Expr) : Option (Ev R) := match ops, bs with
  | [op], [b] => match cCmp op, cA rX c a, cA rX c b, notSet b with
    | some g, some sa, some sb, true => some (evPr g [sa, sb])
    | _, _, _, _ => none
  | [op, op'], [b, d] => match cCmp op, cCmp op', cA rX c a, cA rX c b, cA rX c d, notSet d with
    | some g, some g', some sa, some sb, some sd, true => some (evChain g g' sa sb sd)
    | _, _, _, _, _, _ => none
  | _, _ => none
def cX1 (rX : RX) (rT : RT) : RX := fun c e => match e with
  | .Constant v _ _ => (cConst v).map evK
  | .Name x _ => (slotOf c x).map evSl
  | .BinOp a op b _ => match cBin op, cA rX c a, cA rX c b with
    | some g, some sa, some sb => some (evPr g [sa, sb])
    | _, _, _ => none
  | .UnaryOp .USub a _ => (cA rX c a).map fun s => evPr gNeg [s]
  | .UnaryOp .Not a _ => (rX c a).map evNot
  | .BoolOp op es _ => cBo (rX c) op es
  | .IfExp t a b _ => match rT c t, rX c a, rX c b with
    | some ft, some fa, some fb => some (evIf ft fa fb)
    | _, _, _ => none
  | .Compare a ops bs _ => cCmpV rX c a ops bs
  | .Subscript a ix _ => cIx rX c a ix
  | .Tuple es _ _ => (cL (cV rX c) es).map fun ss => evPr gTup ss
  | .List es _ => (cL (cV rX c) es).map fun ss => evPr gLst ss
  | .ListComp elt [⟨tg, it, ifs, 0⟩] scope _ => cComp rX rT c elt tg it ifs scope
  | .Call (.Name x _) args [] _ => match cConv rX c x args with
    | some f => some f
    | none => match cCall rX c x args [] with
      | some f => some f
      | none => cIsiA rX c x args
  | .Call (.Name x _) args kws _ => cCall rX c x args kws
  | .Call (.Attribute (.Name x _) m ap) args [] cp => cMeth rX c x m args ap.endLine cp.line
  | .Attribute (.Name x _) f _ => (slotOf c x).map fun i => evPr (gAttr c.exs f) [.late i]
  | _ => none
def cT1 (rX : RX) (rT : RT) : RT := fun c e => match e with
  | .UnaryOp .Not a _ => (rT c a).map evNotT
  | .BoolOp op es _ => cBoT (rT c) op es
  | .Compare a ops bs _ => (cCmpV rX c a ops bs).map evTB
  | e => match plainT e with
    | true => (cA rX c e).map evT
    | false => none
def cXT : Nat → RX × RT
  | 0 => (fun _ _ => none, fun _ _ => none)
  | n + 1 => (cX1 (cXT n).1 (cXT n).2, cT1 (cXT n).1 (cXT n).2)
section
variable {c : Cc} {k : Nat} {X : Cx} {M : XM} {W : WX} {rX : RX} {rT : RT} {p pos : Pos}
theorem cConst_ok {v : Const} {d : D} {j : Nat} (h : cConst v = some d) : PE X (.Constant v j pos) (LX X.K M W (evK d)) := by
  cases v <;> simp only [cConst, Option.some.injEq, reduceCtorEq] at h <;> subst h
  · exact x_non
  · exact x_bl
  · exact x_int
  · exact x_str
theorem cIx_ok (ok : OkX rX) (G : Good c k X M W) {a ix : Expr} {f : Ev R} (h : cIx rX c a ix = some f) : PE X (.Subscript a ix pos) (LX X.K M W f) := by
  unfold cIx at h
  split at h
  · split at h
    · rename_i s l u h1 h2 h3
      cases h
      exact peImp (pe_slice sl2 (cA_ok ok G h1).1 (LO_ok ok G h2) (LO_ok ok G h3)) fun _ _ _ q => sli_ok q
    · cases h
  · simp only [Option.map_eq_some_iff] at h
    obtain ⟨s, h1, rfl⟩ := h
    exact peImp (pe_revA (cA_ok ok G h1).1) fun _ _ _ q => prim_ok pr_revA q
  · split at h
    · rename_i sa sb hn h1 h2
      cases h
      exact x_ix (cA_ok ok G h1).1 (cA_ok ok G h2).1 (plainIx hn)
    · cases h
theorem cCmpV_ok (ok : OkX rX) (G : Good c k X M W) {a : Expr} {ops : List CmpOp} {bs : List Expr} {f : Ev R} (h : cCmpV rX c a ops bs = some f) : PE X (.Compare a ops bs pos) (LX X.K M W f) ∧ PT X (.Compare a ops bs pos) (LT X.K M W (evTB f)) := by
  unfold cCmpV at h
  split at h
  · split at h
    · rename_i g sa sb h1 h2 h3 h4
      cases h
      obtain ⟨r, ho, hp⟩ := cCmp_ok (X := X) G.room h1
      exact ⟨x_cmp ho hp (cA_ok ok G h2).1 (cA_ok ok G h3).1 (notSet_marks h4), t_cmp ho hp (cA_ok ok G h2).1 (cA_ok ok G h3).1 (notSet_marks h4)⟩
    · cases h
  · split at h
    · rename_i g g' sa sb sd h1 h1' h2 h3 h3' h4
      cases h
      obtain ⟨r, ho, hp⟩ := cCmp_ok (X := X) G.room h1
      obtain ⟨r', ho', hp'⟩ := cCmp_ok (X := X) G.room h1'
      exact ⟨peImp (pe_chain ho ho' (cA_ok ok G h2).1 (cA_ok ok G h3).1 (cA_ok ok G h3').1 (notSet_marks h4)) fun _ _ _ q => chain_ok hp hp' q,
        ptImp (pt_chain ho ho' (cA_ok ok G h2).1 (cA_ok ok G h3).1 (cA_ok ok G h3').1 (notSet_marks h4)) fun _ _ _ q => chain_ok hp hp' (testB_ok q)⟩
    · cases h
  · cases h
theorem cX1_ok (ok : OkX rX) (okT : OkT rT) : OkX (cX1 rX rT) := by
  intro c e f h k X M W G
  unfold cX1 at h
  split at h
  · simp only [Option.map_eq_some_iff] at h
    obtain ⟨d, h1, rfl⟩ := h
    exact cConst_ok h1
  · simp only [Option.map_eq_some_iff] at h
    obtain ⟨i, h1, rfl⟩ := h
    obtain ⟨g1, g2, g3, g4⟩ := G.vis h1
    exact x_sl g1 g2 g3 g4
  · split at h
    · rename_i g sa sb h1 h2 h3
      cases h
      obtain ⟨r, ho, hp⟩ := cBin_ok (X := X) h1
      exact x_bin ho hp (cA_ok ok G h2).1 (cA_ok ok G h3).1
    · cases h
  · simp only [Option.map_eq_some_iff] at h
    obtain ⟨s, h1, rfl⟩ := h
    exact x_neg (cA_ok ok G h1).1
  · simp only [Option.map_eq_some_iff] at h
    obtain ⟨s, h1, rfl⟩ := h
    exact peImp (pe_notT (ok _ _ _ h1 _ _ _ _ G)) fun _ _ _ q => not_ok q
  · exact cBo_ok (fun e f h => ok _ _ _ h _ _ _ _ G) h
  · split at h
    · rename_i ft fa fb h1 h2 h3
      cases h
      exact peImp (pe_ifExp (okT _ _ _ h1 _ _ _ _ G) (ok _ _ _ h2 _ _ _ _ G) (ok _ _ _ h3 _ _ _ _ G)) fun _ _ _ q => if_ok q
    · cases h
  · exact (cCmpV_ok ok G h).1
  · exact cIx_ok ok G h
  · simp only [Option.map_eq_some_iff] at h
    obtain ⟨ss, h1, rfl⟩ := h
    exact x_tup (cLV_ok ok G h1) (cL_ok (fun e s h => (cV_ok (M := M) (W := W) ok G h).1) h1).1
  · simp only [Option.map_eq_some_iff] at h
    obtain ⟨ss, h1, rfl⟩ := h
    exact x_lst (cLV_ok ok G h1) (cL_ok (fun e s h => (cV_ok (M := M) (W := W) ok G h).1) h1).1
  · exact cComp_ok ok okT G h
  · split at h
    · rename_i f0 h1
      cases h
      exact cConv_ok ok G h1
    · split at h
      · rename_i f0 h1
        cases h
        exact cCall_ok ok G h1
      · exact cIsiA_ok ok G h
  · exact cCall_ok ok G h
  · exact cMeth_ok ok G h
  · simp only [Option.map_eq_some_iff] at h
    obtain ⟨i, h1, rfl⟩ := h
    obtain ⟨g1, g2, g3, g4⟩ := G.vis h1
    exact x_attr G.toGoodH (x_late g1 g2 g3 g4)
  · cases h
theorem cT1_ok (ok : OkX rX) (okT : OkT rT) : OkT (cT1 rX rT) := by
  intro c e f h k X M W G
  unfold cT1 at h
  split at h
  · simp only [Option.map_eq_some_iff] at h
    obtain ⟨s, h1, rfl⟩ := h
    exact t_not (okT _ _ _ h1 _ _ _ _ G)
  · exact (cBoT_ok (fun e f h => okT _ _ _ h _ _ _ _ G) h).pt
  · simp only [Option.map_eq_some_iff] at h
    obtain ⟨s, h1, rfl⟩ := h
    exact (cCmpV_ok ok G h1).2
  · split at h
    · rename_i hp
      simp only [Option.map_eq_some_iff] at h
      obtain ⟨s, h1, rfl⟩ := h
      exact t_val (cA_ok ok G h1).1 (plainT_ok hp)
    · cases h
theorem cXT_ok : ∀ n, OkX (cXT n).1 ∧ OkT (cXT n).2
  | 0 => ⟨fun _ _ _ h => by (cases h), fun _ _ _ h => by (cases h)⟩
  | n + 1 => ⟨cX1_ok (cXT_ok n).1 (cXT_ok n).2, cT1_ok (cXT_ok n).1 (cXT_ok n).2⟩
end
end L3

/-! E20: which stores are swapped. -/
namespace L3
open PySem L2

def swNames (sc : Scope) (ts : List Expr) : List Str := ts.filterMap fun
  | .Name id pos => if sc.names.lookup id == some .local && pos.line == (ts.head?.map (·.pos.line)).getD 0 then some id else none
  | _ => none
def isStar : Expr → Bool
  | .Starred _ _ => true
  | _ => false
/-- the stores of a tuple to a tuple of targets -/
def swN (sc : Scope) (ts vs : List Expr) : Option (Option (List Str)) :=
  if (!(ts.length == 2 || ts.length == 3) || vs.length != ts.length) = true then some none
  else if vs.any isStar = true then none
  else if ((swNames sc ts).length != ts.length || (swNames sc ts).eraseDups.length != (swNames sc ts).length) = true then some none
  else if vs.all (foldedForSure 8) = true then some none
  else if vs.all (constantsAlone 8) = true then none
  else some (some (swNames sc ts))
theorem swN_ok {env : Env} {ts vs : List Expr} {k k2 : Nat} {p p2 : Pos} {o : Option (List Str)} (hk : env.blockKind = .function) (h : swN env.scope ts vs = some o) : swappedStores [.Tuple ts k p] (.Tuple vs k2 p2) env = pure o := by
  unfold swN at h
  unfold swappedStores
  simp only [hk]
  split at h
  · rename_i c1
    cases h
    have : (!(ts.length == 2 || ts.length == 3) || vs.length != ts.length || ScopeKind.function != ScopeKind.function) = true := by rw [c1]; rfl
    rw [if_pos this]
  · rename_i c1
    have n1 : ¬ (!(ts.length == 2 || ts.length == 3) || vs.length != ts.length || ScopeKind.function != ScopeKind.function) = true := by
      intro q; rw [Bool.or_eq_true] at q
      rcases q with q | q
      · exact c1 q
      · exact absurd q (by decide)
    rw [if_neg n1]
    split at h
    · cases h
    rename_i c2
    refine Eq.trans (if_neg ?n2) ?_
    case n2 =>
      intro q
      apply c2
      rw [List.any_eq_true] at q ⊢
      obtain ⟨e, h1, h2⟩ := q
      refine ⟨e, h1, ?_⟩
      cases e <;> first | rfl | cases h2
    split at h
    · rename_i c3
      cases h
      exact if_pos c3
    · rename_i c3
      refine Eq.trans (if_neg c3) ?_
      split at h
      · rename_i c4
        cases h
        exact if_pos c4
      · rename_i c4
        refine Eq.trans (if_neg c4) ?_
        split at h
        · cases h
        · rename_i c5
          cases h
          exact if_neg c5
def isTupE : Expr → Bool
  | .Tuple _ _ _ => true
  | _ => false
theorem sw_noTup {tg e : Expr} {env : Env} (h : isTupE e = false) : swappedStores [tg] e env = pure none := by
  unfold swappedStores
  cases e with
  | Tuple _ _ _ => cases h
  | _ => cases tg <;> rfl
def noComp : Expr → Bool
  | .ListComp _ _ _ _ => false
  | .SetComp _ _ _ _ => false
  | .DictComp _ _ _ _ _ => false
  | _ => true
theorem noComp_sw {e : Expr} {t : Option Expr} {l : Nat} {env : Env} (h : noComp e = true) : swapsWith e t l env = pure false := by
  unfold swapsWith
  cases e <;> first | rfl | cases h
theorem sw_noName {tg e : Expr} {l : Nat} {env : Env} (h : isTupE tg = true) : swapsWith e (some tg) l env = pure false := by
  unfold swapsWith
  cases tg with
  | Tuple _ _ _ => cases e <;> rfl
  | _ => cases h
end L3

/-! E21: statements. -/
namespace L3
open PySem L2

/-- i op= e (ints) -/
def sAug (h : Int → Int → Int) (i : Nat) (f : Ev R) : EvS := fun ρ => match ρ[i]? with
  | some (.v (.int a)) => match f ρ with
    | none => none
    | some (.ex e ρ') => some (.ex e ρ')
    | some (.ok r ρ1) => match r.d with
      | .int b => (asgSl i ⟨.int (h a b), false⟩ ρ1).map .nx
      | _ => none
  | _ => none
section
variable {X : Cx} {M : XM} {W : WX} {pos pos' : Pos}
theorem s_aug {op : Operator} {h : Int → Int → Int} (ho : PIp X op (ipI h)) {i : Nat} {x : Str} {e : Expr} {f : Ev R} (hN : X.N.Nodup) (hi : X.N[i]? = some x) (hx : Loc X.env.scope x) (he : PE X e (LX X.K M W f)) (hf : X.fn x = true ∨ X.env.scope.names.lookup x = some .local) :
    PS X (.AugAssign (.Name x pos') op e pos) (LS X.K M W (sAug h i f)) := by
  refine psImp (ps_aug hN hi hx he ho hf) fun D σ H q => ?_
  obtain ⟨O, ρ, E, q⟩ := q
  unfold sAug at q
  split at q
  · rename_i a ea
    obtain ⟨x0, h1, h2⟩ := E.val i _ ea
    cases h2
    refine ⟨_, h1, O, ρ, E, ?_⟩
    revert q
    generalize f ρ = m
    intro q
    match m, q with
    | some (.ex e ρ'), q => exact fun cls d H' p => q cls d σ H' p
    | some (.ok r ρ'), q =>
      intro y H' p
      have rp := p.rep
      match e : r.d with
      | .int b =>
        rw [e] at rp
        simp only [e] at q
        cases rp
        cases e1 : asgSl i ⟨.int (h a b), false⟩ ρ' with
        | none => simp only [e1, Option.map_none] at q; exact q.elim
        | some ρ2 =>
          simp only [e1, Option.map_some] at q
          have p1 := asg_ok (r := ⟨.int (h a b), false⟩) (x := .int (h a b)) (ρ0 := ρ') (σ0 := σ) (H0 := H') p.env.out ⟨.refl, p.env, .int _, fun z => nomatch z⟩ e1
          exact ⟨_, _, rfl, rfl, q _ _ ⟨p.ext.trans p1.ext, p1.env⟩⟩
      | .non | .bl _ | .str _ | .tup _ | .lst _ | .fls _ | .err _ _ _ | .obj _ _ _ => simp only [e] at q; exact q.elim
  · exact q.elim
end

/-! assignments -/
def localAt (c : Cc) (x : Str) : Option Nat := match c.sc.names.lookup x with
  | some .local => idx x c.N
  | _ => none
/-- is the comprehension's value stored with the name's own store? -/
def swB (c : Cc) (y : Str) (py pc : Pos) (scope : Scope) : Bool := decide (c.sc.names.lookup y = some .local) && (py.line == pc.line) && !(scope.names.any fun (n, k) => n == y && (k == .local || k == .cell))
def cPar (rX : RX) (c : Cc) (ns : List Str) (ts vs : List Expr) : Option EvS := match ts, vs with
  | [.Name x _, .Name y _], [a, b] => match localAt c x, localAt c y, cV rX c a, cV rX c b with
    | some i, some j, some (.e f), some (.e g) => match !(Nat.beq i j) && decide (ns = [x, y]) with
      | true => some (sPar i j f g)
      | false => none
    | _, _, _, _ => none
  | _, _ => none
def cName (rX : RX) (rT : RT) (c : Cc) (x : Str) (py : Pos) (e : Expr) : Option EvS := match locOf c x with
  | some i => match e with
    | .ListComp elt [⟨tg, it, ifs, 0⟩] scope pc => (cComp rX rT c elt tg it ifs scope).map (sSet (asgSl i))
    | e => match noComp e with
      | true => (rX c e).map (sSet (asgSl i))
      | false => none
  | none => none
def cTupA (rX : RX) (c : Cc) (tg e : Expr) : Option EvS := match noComp e with
  | true => match rX c e, cG c (fun _ => true) 6 tg with
    | some f, some g => some (sSet g f)
    | _, _ => none
  | false => none
def cAsg (rX : RX) (rT : RT) (c : Cc) (tg e : Expr) : Option EvS := match tg with
  | .Name x py => cName rX rT c x py e
  | .Tuple ts _ _ => match e with
    | .Tuple vs _ _ => match swN c.sc ts vs with
      | some none => cTupA rX c tg e
      | some (some ns) => cPar rX c ns ts vs
      | none => none
    | e => cTupA rX c tg e
  | .Subscript (.Name x _) ix _ => match notSlice ix, slotOf c x, rX c ix, rX c e with
    | true, some i, some fi, some fv => some (sSetIx i fi fv)
    | _, _, _, _ => none
  | _ => none
section
variable {c : Cc} {k : Nat} {X : Cx} {M : XM} {W : WX} {rX : RX} {rT : RT} {p pos : Pos}
theorem Good.loc1 (G : Good c k X M W) {x : Str} {i : Nat} (h : localAt c x = some i) : X.N[i]? = some x ∧ X.env.scope.names.lookup x = some .local := by
  unfold localAt at h
  rw [G.N, G.sc]
  split at h
  · rename_i e
    exact ⟨idx_of h, e⟩
  · cases h
theorem Good.bk (G : Good c k X M W) : X.env.blockKind = .function := by
  unfold Env.blockKind
  rw [G.sc, G.kd]; rfl
theorem cName_ok (ok : OkX rX) (okT : OkT rT) (G : Good c k X M W) {x : Str} {py : Pos} {e : Expr} {f : EvS} (h : cName rX rT c x py e = some f) : PS X (.Assign [.Name x py] e pos) (LS X.K M W f) := by
  unfold cName at h
  split at h
  · rename_i i hi
    obtain ⟨g1, g2, g3⟩ := G.loc hi
    split at h
    · rename_i elt tg it ifs scope pc
      simp only [Option.map_eq_some_iff] at h
      obtain ⟨f0, h1, rfl⟩ := h
      have key : swapsWith (.ListComp elt [⟨tg, it, ifs, 0⟩] scope pc) (some (.Name x py)) pos.line X.env = pure (swB c x py pc scope) := by
        show (pure (X.env.blockKind == .function && X.env.kindOf x == some .local && py.line == pc.line && !(scope.names.any fun (n, k) => n == x && (k == .local || k == .cell))) : Sem Bool) = _
        rw [G.bk]
        unfold swB
        have : (X.env.kindOf x == some .local) = decide (c.sc.names.lookup x = some .local) := by
          show (X.env.scope.names.lookup x == some .local) = _
          rw [G.sc]
          by_cases e : c.sc.names.lookup x = some .local
          · simp [e]
          · have : ∀ (o : Option NameKind), o ≠ some .local → (o == some .local) = false := by
              intro o ho
              cases o with
              | none => rfl
              | some k => cases k <;> first | rfl | exact absurd rfl ho
            rw [this _ e]; simp [e]
        rw [this]
        rfl
      cases hb : swB c x py pc scope with
      | false =>
        rw [hb] at key
        exact s_set G.nd g1 g2 (cComp_ok ok okT G h1) key g3
      | true =>
        rw [hb] at key
        have hl : X.env.scope.names.lookup x = some .local := by
          unfold swB at hb
          simp only [Bool.and_eq_true, decide_eq_true_eq] at hb
          rw [G.sc]; exact hb.1.1
        obtain ⟨own, fi, g, t, f1, rfl, b, hs, q1, q2, q3, q4⟩ := cComp_parts ok okT G h1
        exact s_setComp G.calm G.nd g1 hl key q1 b q2 q3 q4 (notSet_fold hs)
    · split at h
      · rename_i hn
        simp only [Option.map_eq_some_iff] at h
        obtain ⟨f0, h1, rfl⟩ := h
        exact s_set G.nd g1 g2 (ok _ _ _ h1 _ _ _ _ G) (noComp_sw hn) g3
      · cases h
  · cases h
theorem cTupA_ok (ok : OkX rX) (G : Good c k X M W) {tg e : Expr} {f : EvS} (ht : isTupE tg = true) (hw : swappedStores [tg] e X.env = pure none) (h : cTupA rX c tg e = some f) : PS X (.Assign [tg] e pos) (LS X.K M W f) := by
  unfold cTupA at h
  split at h
  · rename_i hn
    split at h
    · rename_i f0 g h1 h2
      cases h
      refine s_asg (ok _ _ _ h1 _ _ _ _ G) (cG_ok G h2) (noComp_sw hn) hw ?_
      cases tg with
      | Tuple _ _ _ => rfl
      | _ => cases ht
    · cases h
  · cases h
theorem cPar_ok (ok : OkX rX) (G : Good c k X M W) {ns : List Str} {ts vs : List Expr} {kt k2 : Nat} {pt p2 : Pos} {f : EvS} (hw : swappedStores [.Tuple ts kt pt] (.Tuple vs k2 p2) X.env = pure (some ns)) (h : cPar rX c ns ts vs = some f) : PS X (.Assign [.Tuple ts kt pt] (.Tuple vs k2 p2) pos) (LS X.K M W f) := by
  unfold cPar at h
  split at h
  · rename_i x px y py a b
    split at h
    · rename_i i j f0 g0 h1 h2 h3 h4
      split at h
      · rename_i hb
        cases h
        simp only [Bool.and_eq_true, Bool.not_eq_true', decide_eq_true_eq] at hb
        obtain ⟨hij, rfl⟩ := hb
        obtain ⟨a1, a2⟩ := G.loc1 h1
        obtain ⟨b1, b2⟩ := G.loc1 h2
        obtain ⟨⟨pa, sa⟩, _⟩ := cV_ok (M := M) (W := W) ok G h3
        obtain ⟨⟨pb, sb⟩, _⟩ := cV_ok (M := M) (W := W) ok G h4
        refine psImp (ps_par G.calm G.nd a1 b1 (fun q => by rw [q, Nat.beq_refl] at hij; cases hij) a2 b2 (xa_cons pa (xa_cons pb xa_nil (star_cons sb)) (star_cons sa)) hw) fun D σ H q => par_ok q
      · cases h
    · cases h
  · cases h
theorem cAsg_ok (ok : OkX rX) (okT : OkT rT) (G : Good c k X M W) {tg e : Expr} {f : EvS} (h : cAsg rX rT c tg e = some f) : PS X (.Assign [tg] e pos) (LS X.K M W f) := by
  unfold cAsg at h
  split at h
  · exact cName_ok ok okT G h
  · rename_i ts kt pt
    split at h
    · rename_i vs k2 p2
      split at h
      · rename_i hsw
        refine cTupA_ok ok G rfl (swN_ok G.bk (by rw [G.sc]; exact hsw)) h
      · rename_i ns hsw
        exact cPar_ok ok G (swN_ok G.bk (by rw [G.sc]; exact hsw)) h
      · cases h
    · rename_i hn
      refine cTupA_ok ok G rfl (sw_noTup ?_) h
      cases e with
      | Tuple _ _ _ => exact absurd rfl (hn _ _ _)
      | _ => rfl
  · rename_i x px ix p2
    split at h
    · rename_i i fi fv h0 h1 h2 h3
      cases h
      obtain ⟨g1, g2, g3, g4⟩ := G.vis h1
      refine s_setIx g1 g2 g3 g4 (ok _ _ _ h2 _ _ _ _ G) (ok _ _ _ h3 _ _ _ _ G) ?_ ?_ ?_
      · intro v
        cases ix <;> first | rfl | cases h0
      · show swapsWith e (some (.Subscript (.Name x px) ix p2)) pos.line X.env = pure false
        unfold swapsWith
        cases e <;> rfl
      · unfold swappedStores
        cases e <;> rfl
    · cases h
  · cases h
end

/-! one layer of statements -/
abbrev RS := Cc → List Stmt → Option EvS
def OkS (rS : RS) : Prop := ∀ c b f, rS c b = some f → ∀ k X M W, Good c k X M W → PSs X b (LS X.K M W f)
def FUEL : Nat := 100000
/-- raise C(..) -/
def cRaise (rX : RX) (c : Cc) (x : Str) (es : List Expr) : Option EvS := match c.exs.lookup x, glob c x, cL (cV rX c) es with
  | some r, true, some ss => some (sRaise x r.2 ss)
  | _, _, _ => none
/-- an except suite: one statement -/
def cSu (c : Cc) : List Stmt → Option EvS
  | [.Assign [.Name x _] e _] => match locOf c x, noComp e, cEL c e with
    | some i, true, some f => some (sSet (asgSl i) f)
    | _, _, _ => none
  | [.Return (some (.Name _ _)) _] => none
  | [.Return (some e) _] => (cEL c e).map sRet
  | _ => none
def cHds (c : Cc) : List ExceptHandler → Option (List ClaE)
  | [] => some []
  | .ExceptHandler (some (.Name x _)) (some n) (b0 :: bs) _ :: hs => match glob c x && c.exs.names.contains x, localAt c n, cSu c (b0 :: bs), cHds c hs with
    | true, some i, some f, some cs => some (⟨x, i, f⟩ :: cs)
    | _, _, _, _ => none
  | _ :: _ => none
def cTry (rS : RS) (c : Cc) (body : List Stmt) (hs : List ExceptHandler) : Option EvS := match c.top, hs, rS c body, cHds c hs with
  | true, _ :: _, some f, some cs => some (sTry c.exs.names f cs)
  | _, _, _, _ => none
def cS1 (rX : RX) (rT : RT) (rS : RS) (c : Cc) (s : Stmt) : Option EvS := match s with
  | .Expr (.Constant (.str _) _ _) _ => some sNx
  | .Expr e _ => match noComp e with
    | true => (rX c e).map sExpr
    | false => none
  | .Return none _ => some sRetN
  | .Return (some (.Name x _)) _ => (slotOf c x).map sRetSl
  | .Return (some e) _ => (rX c e).map sRet
  | .Pass _ => some sNx
  | .Break _ => some sBk
  | .Continue _ => some sCt
  | .If t a b _ => match rT c t, rS c a, rS c b with
    | some ft, some fa, some fb => some (sIf ft fa fb)
    | _, _, _ => none
  | .While t b [] _ => match rT c t, rS c b with
    | some ft, some fb => some (sWhile ft fb FUEL)
    | _, _ => none
  | .For tg it b [] _ => match notSet it, cI rX c tg it, cG c (fun _ => true) 6 tg, rS c b with
    | true, some fi, some g, some fb => some (sFor fi g fb)
    | _, _, _, _ => none
  | .Assign [tg] e _ => cAsg rX rT c tg e
  | .AugAssign (.Name x _) op e _ => match locOf c x, rX c e, op with
    | some i, some f, .Add => some (sAug (· + ·) i f)
    | some i, some f, .Sub => some (sAug (· - ·) i f)
    | _, _, _ => none
  | .Raise (some (.Call (.Name x _) es [] _)) none _ => cRaise rX c x es
  | .Try body hs [] [] _ => cTry rS c body hs
  | _ => none
def cSL (f : Stmt → Option EvS) : List Stmt → Option EvS
  | [] => some sNx
  | [s] => f s
  | s :: rest => match f s, cSL f rest with
    | some a, some b => some (sSeq a b)
    | _, _ => none
def cSs : Nat → RS
  | 0 => fun _ _ => none
  | n + 1 => fun c b => cSL (cS1 (cXT 30).1 (cXT 30).2 (cSs n) c) b
section
variable {c : Cc} {k : Nat} {X : Cx} {M : XM} {W : WX} {rX : RX} {rT : RT} {rS : RS} {p pos : Pos}
theorem cRaise_ok (ok : OkX rX) (G : Good c k X M W) {x : Str} {es : List Expr} {f : EvS} {pos2 : Pos} (h : cRaise rX c x es = some f) : PS X (.Raise (some (.Call (.Name x p) es [] pos)) none pos2) (LS X.K M W f) := by
  unfold cRaise at h
  split at h
  · rename_i r ss h1 h2 h3
    cases h
    obtain ⟨lk, fs⟩ := r
    obtain ⟨C, g1, T⟩ := G.exs.at x lk fs h1
    obtain ⟨g2, g3⟩ := G.gl h2
    obtain ⟨pa, st, hl⟩ := cL_ok (fun e s h => (cV_ok (M := M) (W := W) ok G h).1) h3
    exact s_raise T g1 G.room G.calm G.takes pa st hl g2 g3
  · cases h
theorem GoodH.hot (G : GoodH c X) {a : Addr} : GoodH c (hotX X a) := ⟨G.sc, G.kd, G.N, G.nd, G.fn, G.blt, G.exs⟩
theorem cSu_ok (G : GoodH c X) {b : List Stmt} {f : EvS} (h : cSu c b = some f) : PSs X b (LS X.K M W f) := by
  unfold cSu at h
  split at h
  · split at h
    · rename_i i f0 h1 h2 h3
      cases h
      obtain ⟨g1, g2, g3⟩ := G.loc h1
      exact pss_one (s_set G.nd g1 g2 (cEL_ok G h3) (noComp_sw h2) g3)
    · cases h
  · cases h
  · simp only [Option.map_eq_some_iff] at h
    obtain ⟨f0, h1, rfl⟩ := h
    exact pss_one (s_ret (cEL_ok G h1))
  · cases h
theorem cHds_ok (G : GoodH c X) : ∀ {hs : List ExceptHandler} {cs : List ClaE}, cHds c hs = some cs → ∃ l, ClasOk X hs l ∧ ClasE X.K M c.exs.names l cs
  | [], cs, h => by cases h; exact ⟨[], .nil, .nil⟩
  | h0 :: hs, cs, h => by
    unfold cHds at h
    split at h
    · rename_i e; cases e
    · rename_i x p1 n b0 bs p2 hs' e
      cases e
      split at h
      · rename_i i f cs' h1 h2 h3 h4
        cases h
        rw [Bool.and_eq_true] at h1
        obtain ⟨lk, fs, hl⟩ := has_lookup h1.2
        obtain ⟨C, g1, T⟩ := G.exs.at x lk fs hl
        obtain ⟨g2, g3⟩ := G.gl h1.1
        have l1 : X.N[i]? = some n ∧ X.env.scope.names.lookup n = some .local := by
          unfold localAt at h2
          rw [G.N, G.sc]
          split at h2
          · rename_i e; exact ⟨idx_of h2, e⟩
          · cases h2
        obtain ⟨l, q1, q2⟩ := cHds_ok G h4
        exact ⟨_, .cons ⟨g2, g3, .inl T.gC⟩ l1.1 l1.2 (fun a => cSu_ok (G.hot (a := a)) h3) q1, .cons h1.2 g1 q2⟩
      · cases h
    · cases h
theorem cTry_ok (okS : OkS rS) (G : Good c k X M W) {body : List Stmt} {hs : List ExceptHandler} {f : EvS} (h : cTry rS c body hs = some f) : PS X (.Try body hs [] [] pos) (LS X.K M W f) := by
  unfold cTry at h
  split at h
  · rename_i h0 hs' fb cs h1 h2 h3
    cases h
    obtain ⟨l, q1, q2⟩ := cHds_ok (M := M) G.toGoodH h3
    obtain ⟨t1, t2⟩ := G.tr h1
    refine psImp (ps_tryE (tb := fun W' => LS X.K M W' fb) t1 t2 G.nd G.takes (fun W' pn xe tk pa => ?_) q1) fun D σ H q => try_ok G.exs.flat q2 q
    exact okS _ _ _ h2 k (X.tr pn xe) M W' { sc := G.sc, kd := G.kd, N := G.N, nd := G.nd, fn := G.fn, blt := G.blt, exs := G.exs, calm := G.calm, room := G.room, tr := G.tr, pass := pa, takes := tk, fns := G.fns }
  · cases h
theorem cS1_ok (ok : OkX rX) (okT : OkT rT) (okS : OkS rS) (G : Good c k X M W) {s : Stmt} {f : EvS} (h : cS1 rX rT rS c s = some f) : PS X s (LS X.K M W f) := by
  unfold cS1 at h
  split at h
  · cases h; exact s_doc
  · split at h
    · rename_i hn
      simp only [Option.map_eq_some_iff] at h
      obtain ⟨f0, h1, rfl⟩ := h
      exact s_expr (ok _ _ _ h1 _ _ _ _ G) (noComp_sw hn)
    · cases h
  · cases h; exact s_retN
  · simp only [Option.map_eq_some_iff] at h
    obtain ⟨i, h1, rfl⟩ := h
    obtain ⟨g1, g2, g3, g4⟩ := G.vis h1
    exact s_retSl g1 g2 g3 g4
  · simp only [Option.map_eq_some_iff] at h
    obtain ⟨i, h1, rfl⟩ := h
    exact s_ret (ok _ _ _ h1 _ _ _ _ G)
  · cases h; exact s_pass
  · cases h; exact s_break
  · cases h; exact s_continue
  · split at h
    · rename_i ft fa fb h1 h2 h3
      cases h
      exact s_if (okT _ _ _ h1 _ _ _ _ G) (okS _ _ _ h2 _ _ _ _ G) (okS _ _ _ h3 _ _ _ _ G)
    · cases h
  · split at h
    · rename_i ft fb h1 h2
      cases h
      exact s_while FUEL G.pass (okT _ _ _ h1 _ _ _ _ G) (okS _ _ _ h2 _ _ _ _ G)
    · cases h
  · split at h
    · rename_i fi g fb h0 h1 h2 h3
      cases h
      exact s_for G.pass G.calm (cI_ok ok G h1) (cG_ok G h2) (okS _ _ _ h3 _ _ _ _ G) (notSet_fold h0)
    · cases h
  · exact cAsg_ok ok okT G h
  · split at h
    · rename_i i f0 h1 h2
      cases h
      obtain ⟨g1, g2, g3⟩ := G.loc h1
      exact s_aug ip_add G.nd g1 g2 (ok _ _ _ h2 _ _ _ _ G) g3
    · rename_i i f0 h1 h2
      cases h
      obtain ⟨g1, g2, g3⟩ := G.loc h1
      exact s_aug ip_sub G.nd g1 g2 (ok _ _ _ h2 _ _ _ _ G) g3
    · cases h
  · exact cRaise_ok ok G h
  · exact cTry_ok okS G h
  · cases h
theorem cSL_ok {f : Stmt → Option EvS} (ok : ∀ s e, f s = some e → PS X s (LS X.K M W e)) : ∀ {b : List Stmt} {e : EvS}, cSL f b = some e → PSs X b (LS X.K M W e)
  | [], e, h => by cases h; exact ss_nil
  | [s], e, h => pss_one (ok _ _ h)
  | s :: s2 :: b, e, h => by
    simp only [cSL] at h
    split at h
    · rename_i a b h1 h2
      cases h
      exact ss_cons (ok _ _ h1) (cSL_ok ok h2)
    · cases h
theorem cSs_ok : ∀ n, OkS (cSs n)
  | 0 => fun _ _ _ h => by (cases h)
  | n + 1 => fun c b f h k X M W G => cSL_ok (fun s e h => cS1_ok (cXT_ok 30).1 (cXT_ok 30).2 (cSs_ok n) G h) h
end
end L3

/-! E22: the program: all its defs, the law. -/
namespace L3
open PySem L2

structure Df where
  nm : Str
  qn : Str
  st : Stmt
  N : List Str
  ps : List Str
  kws : List (Nat × List Str × List Nat)
  bl : List Str
  fns : List (Str × Fi)
  T : (Nat → Ev R) → EvS
def ccOf (tb : ExTab) (d : Df) (cal : Nat → Ev R) : Cc := { sc := defScope d.st, N := d.N, fnB := fun _ => true, bl := d.bl, fns := d.fns, cal := cal, exs := tb, top := true }
/-- the defs' evaluations, n calls deep -/
def evD (ds : List Df) : Nat → Nat → Ev R
  | 0, _ => fun _ => none
  | n + 1, id => match ds[id]? with
    | some d => defEv d.ps.length (d.N.length - d.ps.length) (d.T (evD ds n))
    | none => fun _ => none
def fnsOk (ds : List Df) (d : Df) : Bool := d.fns.all fun q => match ds[q.2.id]? with
  | some e => decide (e.nm = q.1) && decide (q.2.ps = e.ps) && decide (q.2.kws = e.kws)
  | none => false
def dfC (ds : List Df) (d : Df) : Bool := C8.scC d.N d.ps (defScope d.st) && fnsOk ds d && Nat.ble d.ps.length d.N.length
/-- the def as it stands behind the top -/
structure DfAt (K : Frag) (mg : Str → Option Value) (d : Df) (f : Addr) (fd : FuncData) : Prop where
  fn : Fun K d.nm d.qn d.st f fd
  mg : mg d.nm = some (.ref f)
  ba : ∀ us : List Value, us.length = d.ps.length → bindArgs fd ⟨us, []⟩ = pure (d.ps.zip us)
  kw : ∀ q ∈ d.kws, ∀ (s : Shared) (us ws : List Value), K.In s.heap → us.length = q.1 → ws.length = q.2.1.length → ∃ gs, permL (us ++ ws) q.2.2 = some gs ∧ BindsTo s fd ⟨us, q.2.1.zip ws⟩ (d.ps.zip gs)
theorem lookup_mem {α : Type} : ∀ {l : List (Str × α)} {n : Str} {c : α}, l.lookup n = some c → (n, c) ∈ l
  | (k, v) :: r, n, c, h => by
    rw [List.lookup_cons] at h
    split at h
    · rename_i e
      cases h
      rw [eq_of_beq e]
      exact List.mem_cons_self
    · exact List.mem_cons_of_mem _ (lookup_mem h)
section
variable {P : Program} {w : World} {K : Frag} {mg : Str → Option Value} {base : Heap} {M : XM}
theorem spF_none {ps : List Str} {f : Addr} {fd : FuncData} {CX : CXT} {n : Nat} : FnOk P w K mg base CX n f fd ps (spF K M fun _ => none) := by
  have no : ∀ vs H Q E, ¬ spF K M (fun _ => none) vs H Q E := fun vs H Q E h => by
    obtain ⟨O, ρ, _, z⟩ := h
    exact z
  exact ⟨fun vs H Q E h => absurd h (no vs H Q E), fun A outer s H args us vs Q E _ _ _ _ h => absurd h (no vs H Q E)⟩
theorem spF_len {n m : Nat} {body : EvS} {vs : List V} {H : Hp} {Q : VK} {E : XK} (h : spF K M (defEv n m body) vs H Q E) : vs.length = n := by
  obtain ⟨O, as, E0, h⟩ := h
  unfold defEv at h
  split at h
  · exact h.elim
  · rename_i c
    simp only [Bool.and_eq_true] at c
    have := E0.len
    rw [List.length_map] at this
    rw [this]
    exact Nat.eq_of_beq_eq_true c.1
theorem all_ok {tb : ExTab} (hE : Exs K mg tb) {ds : List Df} (hC : ds.all (dfC ds) = true) (hT : ∀ d ∈ ds, ∀ cal, cSs 25 (ccOf tb d cal) (defBody d.st) = some (d.T cal)) (hB : ∀ d ∈ ds, ∀ x, d.bl.contains x = true → mg x = none)
    (hA : ∀ d ∈ ds, ∃ f fd, DfAt K mg d f fd) : ∀ (n id : Nat) (d : Df) (f : Addr) (fd : FuncData), ds[id]? = some d → DfAt K mg d f fd → FnOk P w K mg base (L2.CX P w) n f fd d.ps (spF K M (evD ds n id))
  | 0, id, d, f, fd, hd, A => spF_none
  | n + 1, id, d, f, fd, hd, A => by
    have hm := List.mem_of_getElem? hd
    have hc := List.all_eq_true.mp hC d hm
    unfold dfC at hc
    simp only [Bool.and_eq_true] at hc
    obtain ⟨⟨c1, c2⟩, c3⟩ := hc
    have S := C8.fnScope_by c1
    have hN : d.ps.length + (d.N.length - d.ps.length) = d.N.length := by have := Nat.le_of_ble_eq_true c3; omega
    have ev : evD ds (n + 1) id = defEv d.ps.length (d.N.length - d.ps.length) (d.T (evD ds n)) := by
      show (match ds[id]? with | some d => _ | none => _) = _
      rw [hd]
    rw [ev]
    refine A.fn.okX S (fun vs H Q E h => spF_len h) fun cdv Ar outer s H vs Q E hr h => ?_
    refine ⟨_, cSs_ok 25 _ _ _ (hT d hm (evD ds n)) n _ M (fun cls dd _ H' => E cls dd H') ?_, def_ok hN h⟩
    exact {
      sc := rfl
      kd := S.kind
      N := rfl
      nd := S.nd
      fn := rfl
      calm := rfl
      room := hr
      pass := passes_of (X := cxOf (L2.CX P w) P w K mg base d.N d.qn (defScope d.st) f cdv Ar outer s H E) rfl
      takes := takes_of (X := cxOf (L2.CX P w) P w K mg base d.N d.qn (defScope d.st) f cdv Ar outer s H E) rfl rfl rfl rfl
      blt := hB d hm
      exs := hE
      tr := fun _ => ⟨rfl, rfl⟩
      fns := fun x fi hx => by
        have := List.all_eq_true.mp c2 _ (lookup_mem hx)
        split at this
        · rename_i e he
          simp only [Bool.and_eq_true, decide_eq_true_eq] at this
          obtain ⟨⟨e1, e2⟩, e3⟩ := this
          obtain ⟨f', fd', A'⟩ := hA e (List.mem_of_getElem? he)
          refine ⟨f', fd', ?_, e1 ▸ A'.mg, A'.fn.kp, by rw [e2]; exact Binds.all A'.ba, ?_⟩
          · rw [e2]; exact all_ok hE hC hT hB hA n fi.id e f' fd' he A'
          · rw [e2, e3]; exact A'.kw
        · cases this }
end

/-- the script -/
theorem sp_script {K : Frag} {M : XM} {ev : Ev R} {r : Bool} {ρ' : Sls} {H : Hp} {a : Addr} {ns : List Int} (hS : SqL K H a (ns.map V.int)) (h : ev [.v (.fls (ns.map .int))] = some (.ok ⟨.bl true, r⟩ ρ')) : spF K M ev [.ref a] H (fun v _ => v = .bl true) fun _ _ _ => False := by
  have hr : ∀ ns : List Int, Reps (Ow (fun _ => False) ([V.ref a].map some) [.v (.fls (ns.map .int))]) K H (ns.map V.int) (ns.map D.int) := fun ns => by
    have g : ∀ (O : Addr → Prop) (ns : List Int), Reps O K H (ns.map V.int) (ns.map D.int) := fun O ns => by
      induction ns with
      | nil => exact .nil
      | cons n ns ih => exact .cons (.int n) ih
    exact g _ ns
  have no : ∀ b, ¬ Ow (fun _ => False) ([V.ref a].map some) [.v (.fls (ns.map .int))] b := fun b z => by
    rcases z with z | ⟨i, ⟨k, es, e1⟩, _⟩
    · exact z
    · cases i with
      | zero => cases e1
      | succ i => simp at e1
  refine ⟨fun _ => False, [.v (.fls (ns.map .int))], ⟨rfl, fun i d e => ?_, fun i k es e => ?_, fun i j b z1 z2 => ?_, fun b z => z.elim⟩, ?_⟩
  · cases i with
    | zero =>
      cases e
      exact ⟨_, rfl, .fls (hS.elim (fun h => .inl ⟨no _, h⟩) .inr) (hr ns)⟩
    | succ i => simp at e
  · cases i with
    | zero => cases e
    | succ i => simp at e
  · exact absurd (.inr ⟨i, z1⟩) (no b)
  · rw [h]
    intro x H' p
    have rp := p.rep
    cases rp
    rfl
theorem top_none {P : Program} {w : World} {H : Hp} {s : Shared} {e : Value} {s' : Shared} (h : L2.CX P w [] H s (fun _ _ _ => False) e s') : False := by
  obtain ⟨_, _, _, _, _, _, _, _, _, _, _, _, z⟩ := h
  exact z.elim
end L3

set_option maxRecDepth 100000
/-! X11: the facts of the program's error classes put together. -/
namespace L3
open PySem L2
section
variable {K : Frag} {mg : Str → Option Value} {h : Heap} {C f : Addr} {lk : Bool} {nm : Str} {bm : List Value} {nw : String} {fs : List Str}
theorem cls_of (a : PySem.W.nsIn K mainGlobals nm = some (some (.ref C))) : exCls K nm = some C := by
  unfold exCls
  rw [a]
/-- what is so of every error class -/
structure ErrB (K : Frag) (mg : Str → Option Value) (C : Addr) (nm : Str) (bm : List Value) : Prop where
  gC : mg nm = some (.ref C)
  ex : exCls K nm = some C
  kC : PySem.W.keepIn K (.ref C) = true
  tyC : PySem.W.typeIn K (.ref C) = some (.type "type")
  xc : ExcC K C
  ov : PySem.W.excOver K C bm = true
theorem errB (X : K.In h) (G : h.Ns mainGlobals mg) (a : PySem.W.nsIn K mainGlobals nm = some (some (.ref C))) (kC : PySem.W.keepIn K (.ref C) = true) (tyC : PySem.W.typeIn K (.ref C) = some (.type "type"))
    (hg : PySem.W.findIn K (.ref C) "__getattribute__" = some (some (.builtin "BaseException.__getattribute__"))) (hk : PySem.W.findIn K (.ref C) "__getattr__" = some none) (hs : PySem.W.subIn K (.ref C) (.type "BaseException") = some true) (hd : PySem.W.hasDictIn K C = true)
    (ha : PySem.W.findIn K (.ref C) "__class__" = some (some (.builtin "object.__class__"))) (hn : PySem.W.specialIn K (.builtin "object.__class__") "__get__" = some (some (.builtin "getset_descriptor.__get__"))) (ht : PySem.W.takesIn K (.builtin "object.__class__") = some true)
    (hm : PySem.W.mroIn K C (.type "object") = some true) (ov : PySem.W.excOver K C bm = true) : ErrB K mg C nm bm :=
  ⟨PySem.W.mg_of X G a, cls_of a, kC, tyC, ⟨hg, hk, hs, hd, ha, hn, ht, hm⟩, ov⟩
theorem err0 (B : ErrB K mg C nm bm) (hb : bm = bM lk) (hw : nw = bN lk) (q : PySem.W.excIn K C bm nw = true) : exCls K nm = some C ∧ ErrAt K mg C lk nm [] := by
  subst hb hw
  exact ⟨B.ex, B.gC, B.kC, B.tyC, B.xc, B.ov, (fun x hx => nomatch hx), .inl ⟨rfl, q⟩⟩
theorem errI (B : ErrB K mg C nm bm) (hb : bm = bM lk) (hw : nw = bN lk) (ok : okFs fs = true) (ne : fs ≠ []) (q : PySem.W.excInitIn K C bm nw = true) (sa : PySem.W.findIn K (.ref C) "__setattr__" = some (some (.builtin "object.__setattr__")))
    (no : ∀ x ∈ fs, PySem.W.findIn K (.ref C) x = some none) (iC : PySem.W.findIn K (.ref C) "__init__" = some (some (.ref f))) (tC : PySem.W.typeIn K (.ref f) = some (.type "function"))
    {st : Stmt} {qn : Str} {oc : Value} {od an : Option Addr} {doc pm cdv ct : Value} {osl : Array (Option Value)} (l : K.lookup f = some ⟨oc, od, .func (PySem.W.fnOf "__init__" qn (defArgs st) (defBody st) (defScope st) .none .none doc pm an cdv ct), osl⟩) (c : PySem.W.codeIn K cdv qn = true)
    {p1 : Pos} {ps : List Pos} {qs : List Ps4} (l1 : ps.length = fs.length) (l2 : qs.length = fs.length) (eA : defArgs st = iniA p1 (fs.zip ps)) (eB : defBody st = iniB (fs.zip qs)) (eS : defScope st = iniS fs)
    (hbd : ∀ (doc pm : Value) (an : Option Addr) (cdv ct : Value) (x : Addr) (us : List Value), us.length = fs.length → bindArgs (PySem.W.fnOf "__init__" qn (iniA p1 (fs.zip ps)) (iniB (fs.zip qs)) (iniS fs) .none .none doc pm an cdv ct) ⟨.ref x :: us, []⟩ = pure ((PySem.Str.ofString "self", .ref x) :: fs.zip us)) :
    exCls K nm = some C ∧ ErrAt K mg C lk nm fs := by
  subst hb hw
  rw [eA, eB, eS] at l
  exact ⟨B.ex, B.gC, B.kC, B.tyC, B.xc, B.ov, no, .inr ⟨ne, ok, f, q, B.ov, sa, no, iC, tC, B.xc.hd, oc, od, doc, pm, an, cdv, ct, osl, p1, ps, qs, qn, l1, l2, hbd doc pm an cdv ct, l, c⟩⟩
/-- the table -/
theorem exs_of {tb : ExTab} {Cs : List (Str × Addr)} (e : tb.names = Cs.map (·.1)) (H : ∀ q ∈ tb, ∃ C, exCls K q.1 = some C ∧ ErrAt K mg C q.2.1 q.1 q.2.2) (hx : ∀ p ∈ Cs, exCls K p.1 = some p.2)
    (S : ∀ p ∈ Cs, ∀ q ∈ Cs, PySem.W.subIn K (.ref p.2) (.ref q.2) = some (q.1 == p.1)) : Exs K mg tb := by
  have find : ∀ x C, tb.names.contains x = true → exCls K x = some C → (x, C) ∈ Cs := fun x C hc hC => by
    rw [e] at hc
    obtain ⟨p, hp, rfl⟩ := List.mem_map.mp (List.contains_iff_mem.mp hc)
    have := hx p hp
    rw [this] at hC; cases hC
    exact hp
  refine ⟨fun nm lk fs hl => ?_, fun x y C D hx1 hy hC hD => ?_⟩
  · exact H (nm, lk, fs) (lookup_mem0 hl)
  · obtain ⟨lk, fs, hl⟩ := has_lookup hy
    obtain ⟨D', g1, T⟩ := H (y, lk, fs) (lookup_mem0 hl)
    rw [hD] at g1; cases g1
    exact PySem.W.exm_ref T.xc.hs T.xc.hd T.tyC (S _ (find x C hx1 hC) _ (find y D hy hD))
where
  lookup_mem0 : ∀ {l : ExTab} {n : Str} {c : Bool × List Str}, l.lookup n = some c → (n, c.1, c.2) ∈ l
  | (k, v) :: r, n, c, h => by
    rw [List.lookup_cons] at h
    split at h
    · rename_i e
      cases h
      rw [eq_of_beq e]
      exact List.mem_cons_self
    · exact List.mem_cons_of_mem _ (lookup_mem0 h)
end
end L3

/-! E25: the end of a law. -/
namespace L3
open PySem L2
section
variable {K : Frag} {mg : Str → Option Value}
theorem dfAt_mk {h : Heap} (X : K.In h) (G : h.Ns mainGlobals mg) {d : Df} {f : Addr} {oc : Value} {od an : Option Addr} {osl : Array (Option Value)} {kV doc pm cdv ct : Value}
    (a : PySem.W.nsIn K mainGlobals d.nm = some (some (.ref f))) (l : K.lookup f = some ⟨oc, od, .func (PySem.W.fnOf d.nm d.qn (defArgs d.st) (defBody d.st) (defScope d.st) .none kV doc pm an cdv ct), osl⟩)
    (c : PySem.W.codeIn K cdv d.qn = true) (k : PySem.W.keepIn K (.ref f) = true)
    (hb : ∀ (kV doc pm : Value) (an : Option Addr) (cdv ct : Value) (us : List Value), us.length = d.ps.length → bindArgs (PySem.W.fnOf d.nm d.qn (defArgs d.st) (defBody d.st) (defScope d.st) .none kV doc pm an cdv ct) ⟨us, []⟩ = pure (d.ps.zip us))
    (hk : ∀ q ∈ d.kws, ∀ (kV doc pm : Value) (an : Option Addr) (cdv ct : Value) (us ws : List Value), us.length = q.1 → ws.length = q.2.1.length → ∃ gs, permL (us ++ ws) q.2.2 = some gs ∧ bindArgs (PySem.W.fnOf d.nm d.qn (defArgs d.st) (defBody d.st) (defScope d.st) .none kV doc pm an cdv ct) ⟨us, q.2.1.zip ws⟩ = pure (d.ps.zip gs)) :
    DfAt K mg d f (PySem.W.fnOf d.nm d.qn (defArgs d.st) (defBody d.st) (defScope d.st) .none kV doc pm an cdv ct) :=
  ⟨fun_mk l c k, PySem.W.mg_of X G a, hb kV doc pm an cdv ct, fun q hq s us ws _ h1 h2 => by
    obtain ⟨gs, e1, e2⟩ := hk q hq kV doc pm an cdv ct us ws h1 h2
    exact ⟨gs, e1, .of_eq e2⟩⟩
/-- the end of a law that raises nothing: law is the def number id -/
theorem the_end {l : PySem.W.OpenLaw} {q : Program} {loose : List Str} {XP : (Str → Option Value) → Heap → Prop} {YP : World → Heap → Prop} {r : DefRec} {K : Params → Frag} {ds : List Df} {tb : ExTab} {n id : Nat} {d : Df} {x : Str}
    (hn : l.most = some 63) (hdf : r.params.defaults = []) (hr : Room n callerA) (hC : ds.all (dfC ds) = true) (hT : ∀ d ∈ ds, ∀ cal, cSs 25 (ccOf tb d cal) (defBody d.st) = some (d.T cal)) (hd : ds[id]? = some d) (hps : d.ps = [x]) (hnm : r.name = d.nm)
    (hY : ∀ (w : World) (h : Heap), YP w h → (K w.params).In h)
    (hA : ∀ (w : World) (mg : Str → Option Value) (h : Heap), (K w.params).In h → h.Ns mainGlobals mg → ∀ e ∈ ds, ∃ f fd, DfAt (K w.params) mg e f fd)
    (hE : ∀ (w : World) (mg : Str → Option Value) (h : Heap), (K w.params).In h → h.Ns mainGlobals mg → Exs (K w.params) mg tb)
    (hB : ∀ (w : World) (mg : Str → Option Value) (h : Heap), (K w.params).In h → h.Ns mainGlobals mg → ∀ e ∈ ds, ∀ y, e.bl.contains y = true → mg y = none)
    (ev : ∀ ns : List Int, ns.length ≤ 63 → ∃ b ρ', evD ds n id [.v (.fls (ns.map .int))] = some (.ok ⟨.bl true, b⟩ ρ')) :
    PySem.W.WalkO q loose XP YP l.row.toRowW r [] (fun f vs => PySem.call f vs) :=
  L2.walk_of (n := 63) (k := n) (x := x) (CX := fun w => L2.CX l.prog w) (sp := fun w => spF (K w.params) (fun _ => none) (evD ds n id)) hn (by decide) hdf hr hY
    (fun w mg fa h KX G hfa => by
      obtain ⟨f, fd, A⟩ := hA w mg h KX G d (List.mem_of_getElem? hd)
      have e : fa = f := by
        have q := A.mg
        rw [← hnm, hfa] at q
        cases q; rfl
      subst e
      refine ⟨fd, fun s u => ?_, fun base KB GB => ?_⟩
      · have q := A.ba [u] (by rw [hps]; rfl)
        rw [hps] at q
        exact .of_eq q
      · have z := all_ok (P := l.prog) (w := w) (base := base) (M := fun _ => none) (hE w mg h KX G) hC hT (hB w mg h KX G) (hA w mg h KX G) n id d fa fd hd A
        rw [hps] at z
        exact z)
    (fun w H a ns hl _ hS => by
      obtain ⟨b, ρ', e⟩ := ev ns hl
      exact sp_script hS e)
    (fun w H s e s' z => top_none z)
end
end L3

/-! M0: how an evaluation is run over known slots: each lemma is one step, by what has come. -/
namespace L3
open PySem L2
section
variable {α β : Type} {ρ ρ' sl : Sls} {i j k n : Nat} {d e : D} {ds es : List D} {r : R} {rs : List (Nat ⊕ D)} {as : List SA} {f g h fe : Ev R} {t u : Ev Bool} {b : Bool} {x : Exc}
def k1 (m : Option (Out α)) (g : α → Ev β) : Option (Out β) := match m with
  | none => none
  | some (.ok a ρ) => g a ρ
  | some (.ex e ρ) => some (.ex e ρ)
theorem k1_ok {a : α} {g : α → Ev β} : k1 (some (.ok a ρ)) g = g a ρ := rfl
theorem k1_ex {g : α → Ev β} : k1 (some (.ex x ρ)) g = some (.ex x ρ) := rfl
theorem k1_no {g : α → Ev β} : k1 none g = none := rfl
theorem ret_r {a : α} : Ev.ret a ρ = some (.ok a ρ) := rfl
/-- arguments -/
def asF (d : D) : List (Nat ⊕ D) → Ev (List (Nat ⊕ D)) := fun rs ρ => some (.ok (.inr d :: rs) ρ)
theorem asF_r : asF d rs ρ = some (.ok (.inr d :: rs) ρ) := rfl
def asE (as : List SA) : R → Ev (List (Nat ⊕ D)) := fun r ρ => k1 (evAs as ρ) (asF r.d)
theorem asE_r : asE as r ρ = k1 (evAs as ρ) (asF r.d) := rfl
def asI (i : Nat) : List (Nat ⊕ D) → Ev (List (Nat ⊕ D)) := fun rs ρ => some (.ok (.inl i :: rs) ρ)
theorem asI_r : asI i rs ρ = some (.ok (.inl i :: rs) ρ) := rfl
def asL : Bool → Option (Out (List (Nat ⊕ D))) → Option (Out (List (Nat ⊕ D)))
  | true, m => m
  | false, _ => none
theorem asL_t {m} : asL true m = m := rfl
theorem as_nil : evAs [] ρ = some (.ok [] ρ) := rfl
theorem as_e : evAs (.e f :: as) ρ = k1 (f ρ) (asE as) := rfl
theorem as_l : evAs (.late i :: as) ρ = asL (isSet ρ i) (k1 (evAs as ρ) (asI i)) := by
  show (match isSet ρ i with | true => (evAs as).bind (fun rs => Ev.ret ((Sum.inl i : Nat ⊕ D) :: rs)) ρ | false => none) = _
  cases isSet ρ i <;> rfl
def isSetS : Option Slot → Bool
  | some (.v _) => true
  | some (.own _ _) => true
  | _ => false
theorem isSet_r : isSet ρ i = isSetS ρ[i]? := by
  unfold isSet isSetS
  split <;> simp_all
theorem isSet_v : isSetS (some (.v d)) = true := rfl
theorem isSet_o : isSetS (some (.own k ds)) = true := rfl
def fdR (d : D) (m : Option (List D)) : Option (List D) := m.map (d :: ·)
theorem fdR_s : fdR d (some ds) = some (d :: ds) := rfl
def fdL : Option Slot → Option (List D) → Option (List D)
  | some (.v d), some ds => some (d :: ds)
  | some (.own _ es), some ds => some (.lst es :: ds)
  | _, _ => none
theorem fd_nil : finD ρ [] = some [] := rfl
theorem fd_r : finD ρ (.inr d :: rs) = fdR d (finD ρ rs) := rfl
theorem fd_l : finD ρ (.inl i :: rs) = fdL ρ[i]? (finD ρ rs) := by
  simp only [finD]
  cases ρ[i]? with
  | none => rfl
  | some s => cases s <;> cases finD ρ rs <;> rfl
theorem fdL_v : fdL (some (.v d)) (some ds) = some (d :: ds) := rfl
theorem fdL_o : fdL (some (.own k es)) (some ds) = some (.lst es :: ds) := rfl
/-- primitives -/
def prC (ρ : Sls) : Option R → Option (Out R)
  | some r => some (.ok r ρ)
  | none => none
theorem prC_s : prC ρ (some r) = some (.ok r ρ) := rfl
def prB (g : List D → Option R) (ρ : Sls) : Option (List D) → Option (Out R)
  | some ds => prC ρ (g ds)
  | none => none
theorem prB_s {g : List D → Option R} : prB g ρ (some ds) = prC ρ (g ds) := rfl
def prA (g : List D → Option R) : List (Nat ⊕ D) → Ev R := fun rs ρ => prB g ρ (finD ρ rs)
theorem prA_r {g : List D → Option R} : prA g rs ρ = prB g ρ (finD ρ rs) := rfl
theorem pr_r {g : List D → Option R} : evPr g as ρ = k1 (evAs as ρ) (prA g) := by
  show ((evAs as).bind _) ρ = _
  unfold Ev.bind k1
  cases evAs as ρ with
  | none => rfl
  | some o => cases o with
    | ok rs ρ' => show (match finD ρ' rs with | none => none | some ds => _) = prB g ρ' (finD ρ' rs); cases finD ρ' rs with
      | none => rfl
      | some ds => show (match g ds with | none => none | some r => _) = prC ρ' (g ds); cases g ds <;> rfl
    | ex e ρ' => rfl
theorem gd_t : gd true r = some r := rfl
/-- names, constants -/
def slK (i : Nat) (ρ : Sls) : Option Slot → Option (Out R)
  | some (.v d) => some (.ok ⟨d, false⟩ ρ)
  | some (.own 0 ds) => some (.ok ⟨.lst ds, false⟩ (ρ.set i (.v (.lst ds))))
  | _ => none
theorem sl_r : evSl i ρ = slK i ρ ρ[i]? := by
  unfold evSl slK
  split <;> simp_all
theorem slK_v : slK i ρ (some (.v d)) = some (.ok ⟨d, false⟩ ρ) := rfl
theorem slK_o : slK i ρ (some (.own 0 ds)) = some (.ok ⟨.lst ds, false⟩ (ρ.set i (.v (.lst ds)))) := rfl
theorem k_r : evK d ρ = some (.ok ⟨d, false⟩ ρ) := rfl
/-- tests -/
def tbA : R → Ev Bool := fun r ρ => match r.d with
  | .bl b => some (.ok b ρ)
  | _ => none
theorem tb_r : evTB f ρ = k1 (f ρ) tbA := rfl
theorem tbA_r {fr : Bool} : tbA ⟨.bl b, fr⟩ ρ = some (.ok b ρ) := rfl
def tC (ρ : Sls) : Option Bool → Option (Out Bool)
  | some b => some (.ok b ρ)
  | none => none
theorem tC_s : tC ρ (some b) = some (.ok b ρ) := rfl
def tB (ρ : Sls) : Option (List D) → Option (Out Bool)
  | some [d] => tC ρ d.tru
  | _ => none
theorem tB_s : tB ρ (some [d]) = tC ρ d.tru := rfl
def tA : List (Nat ⊕ D) → Ev Bool := fun rs ρ => tB ρ (finD ρ rs)
theorem tA_r : tA rs ρ = tB ρ (finD ρ rs) := rfl
theorem t_r {s : SA} : evT s ρ = k1 (evAs [s] ρ) tA := by
  show ((evAs [s]).bind _) ρ = _
  unfold Ev.bind k1
  cases evAs [s] ρ with
  | none => rfl
  | some o => cases o with
    | ok rs ρ' =>
      show (match finD ρ' rs with | some [d] => _ | _ => none) = tB ρ' (finD ρ' rs)
      match finD ρ' rs with
      | none => rfl
      | some [] => rfl
      | some [d] => show (match d.tru with | some b => _ | none => none) = tC ρ' d.tru; cases d.tru <;> rfl
      | some (_ :: _ :: _) => rfl
    | ex e ρ' => rfl
def noA : Bool → Ev Bool := fun b ρ => some (.ok (!b) ρ)
theorem noA_r : noA b ρ = some (.ok (!b) ρ) := rfl
theorem not_r : evNotT t ρ = k1 (t ρ) noA := rfl
def anA (u : Ev Bool) : Bool → Ev Bool := fun b ρ => match b with
  | true => u ρ
  | false => some (.ok false ρ)
theorem anA_t : anA u true ρ = u ρ := rfl
theorem anA_f : anA u false ρ = some (.ok false ρ) := rfl
theorem and_r : evAndT t u ρ = k1 (t ρ) (anA u) := by
  show (t.bind _) ρ = _
  unfold Ev.bind k1
  cases t ρ with
  | none => rfl
  | some o => cases o with
    | ok b ρ' => cases b <;> rfl
    | ex e ρ' => rfl
def orA (u : Ev Bool) : Bool → Ev Bool := fun b ρ => match b with
  | true => some (.ok true ρ)
  | false => u ρ
theorem orA_t : orA u true ρ = some (.ok true ρ) := rfl
theorem orA_f : orA u false ρ = u ρ := rfl
theorem or_r : evOrT t u ρ = k1 (t ρ) (orA u) := by
  show (t.bind _) ρ = _
  unfold Ev.bind k1
  cases t ρ with
  | none => rfl
  | some o => cases o with
    | ok b ρ' => cases b <;> rfl
    | ex e ρ' => rfl
def ifA (f g : Ev R) : Bool → Ev R := fun b ρ => match b with
  | true => f ρ
  | false => g ρ
theorem ifA_t : ifA f g true ρ = f ρ := rfl
theorem ifA_f : ifA f g false ρ = g ρ := rfl
theorem if_r : evIf t f g ρ = k1 (t ρ) (ifA f g) := by
  show (t.bind _) ρ = _
  unfold Ev.bind k1
  cases t ρ with
  | none => rfl
  | some o => cases o with
    | ok b ρ' => cases b <;> rfl
    | ex e ρ' => rfl
def anV (g : Ev R) (r : R) (ρ : Sls) : Option Bool → Option (Out R)
  | some true => g ρ
  | some false => some (.ok r ρ)
  | none => none
theorem anV_t : anV g r ρ (some true) = g ρ := rfl
theorem anV_f : anV g r ρ (some false) = some (.ok r ρ) := rfl
def anU (g : Ev R) : R → Ev R := fun r ρ => anV g r ρ r.d.tru
theorem anU_r : anU g r ρ = anV g r ρ r.d.tru := rfl
theorem andV_r : evAnd f g ρ = k1 (f ρ) (anU g) := by
  show (f.bind _) ρ = _
  unfold Ev.bind k1
  cases f ρ with
  | none => rfl
  | some o => cases o with
    | ok r ρ' => show (match r.d.tru with | some true => _ | some false => _ | none => none) = anV g r ρ' r.d.tru; cases r.d.tru with
      | none => rfl
      | some b => cases b <;> rfl
    | ex e ρ' => rfl
def orV (g : Ev R) (r : R) (ρ : Sls) : Option Bool → Option (Out R)
  | some true => some (.ok r ρ)
  | some false => g ρ
  | none => none
theorem orV_t : orV g r ρ (some true) = some (.ok r ρ) := rfl
theorem orV_f : orV g r ρ (some false) = g ρ := rfl
def orU (g : Ev R) : R → Ev R := fun r ρ => orV g r ρ r.d.tru
theorem orU_r : orU g r ρ = orV g r ρ r.d.tru := rfl
theorem orV_r : evOr f g ρ = k1 (f ρ) (orU g) := by
  show (f.bind _) ρ = _
  unfold Ev.bind k1
  cases f ρ with
  | none => rfl
  | some o => cases o with
    | ok r ρ' => show (match r.d.tru with | some true => _ | some false => _ | none => none) = orV g r ρ' r.d.tru; cases r.d.tru with
      | none => rfl
      | some b => cases b <;> rfl
    | ex e ρ' => rfl
def ntV (ρ : Sls) : Option Bool → Option (Out R)
  | some b => some (.ok ⟨.bl (!b), false⟩ ρ)
  | none => none
theorem ntV_s : ntV ρ (some b) = some (.ok ⟨.bl (!b), false⟩ ρ) := rfl
def ntU : R → Ev R := fun r ρ => ntV ρ r.d.tru
theorem ntU_r : ntU r ρ = ntV ρ r.d.tru := rfl
theorem notV_r : evNot f ρ = k1 (f ρ) ntU := by
  show (f.bind _) ρ = _
  unfold Ev.bind k1
  cases f ρ with
  | none => rfl
  | some o => cases o with
    | ok r ρ' => show (match r.d.tru with | some b => _ | none => none) = ntV ρ' r.d.tru; cases r.d.tru <;> rfl
    | ex e ρ' => rfl
theorem tru_b : (D.bl b).tru = some b := rfl
theorem tru_i {n : Int} : (D.int n).tru = some (n != 0) := rfl
theorem tru_n : D.non.tru = some false := rfl
theorem tru_t : (D.tup ds).tru = some (!ds.isEmpty) := rfl
theorem tru_l : (D.lst ds).tru = some (!ds.isEmpty) := rfl
theorem tru_f : (D.fls ds).tru = some (!ds.isEmpty) := rfl
/-- stores -/
def freeK : Option Slot → Bool
  | none => false
  | some (.own k _) => Nat.beq k 0
  | some _ => true
theorem free_r : free ρ i = freeK ρ[i]? := by
  unfold free freeK
  split <;> simp_all
theorem free_u : freeK (some .unk) = true := rfl
theorem free_v : freeK (some (.v d)) = true := rfl
theorem free_o : freeK (some (.own 0 ds)) = true := rfl
def asgM (i : Nat) (ρ : Sls) : Bool → D → Option Sls
  | true, .lst ds => some (ρ.set i (.own 0 ds))
  | _, d => some (ρ.set i (.v d))
def asgK (i : Nat) (r : R) (ρ : Sls) : Bool → Option Sls
  | true => asgM i ρ r.fr r.d
  | false => none
theorem asgK_t : asgK i r ρ true = asgM i ρ r.fr r.d := rfl
theorem asg_r : asgSl i r ρ = asgK i r ρ (free ρ i) := by
  unfold asgSl asgK
  cases free ρ i with
  | false => rfl
  | true => obtain ⟨d, fr⟩ := r; cases fr <;> cases d <;> rfl
theorem asgM_f : asgM i ρ false d = some (ρ.set i (.v d)) := by cases d <;> rfl
theorem asgM_l : asgM i ρ true (.lst ds) = some (ρ.set i (.own 0 ds)) := rfl
theorem asgM_t : asgM i ρ true (.tup ds) = some (ρ.set i (.v (.tup ds))) := rfl
def acK (gs : List D → Sls → Option Sls) (ds : List D) : Option Sls → Option Sls
  | some ρ => gs ds ρ
  | none => none
theorem acK_s {gs} : acK gs ds (some ρ) = gs ds ρ := rfl
theorem ac_r {g gs} : asgCons g gs (d :: ds) ρ = acK gs ds (g ⟨d, false⟩ ρ) := by
  show (match g ⟨d, false⟩ ρ with | some ρ' => gs ds ρ' | none => none) = _
  cases g ⟨d, false⟩ ρ <;> rfl
theorem an_r : asgNil [] ρ = some ρ := rfl
def atL (gs : List D → Sls → Option Sls) (ρ : Sls) (ds : List D) : Bool → Option Sls
  | true => gs ds ρ
  | false => none
theorem atL_t {gs} : atL gs ρ ds true = gs ds ρ := rfl
def atK (n : Nat) (gs : List D → Sls → Option Sls) (ρ : Sls) : Option (List D) → Option Sls
  | some ds => atL gs ρ ds (Nat.beq ds.length n)
  | none => none
theorem atK_s {gs} : atK n gs ρ (some ds) = atL gs ρ ds (Nat.beq ds.length n) := rfl
theorem at_r {gs} : asgTup n gs r ρ = atK n gs ρ r.d.sq := by
  unfold asgTup atK
  cases r.d.sq with
  | none => rfl
  | some ds => show (match Nat.beq ds.length n with | true => _ | false => _) = atL gs ρ ds (Nat.beq ds.length n); cases Nat.beq ds.length n <;> rfl
theorem sq_t : (D.tup ds).sq = some ds := rfl
theorem sq_l : (D.lst ds).sq = some ds := rfl
theorem sq_f : (D.fls ds).sq = some ds := rfl
def nxK : Option Sls → Option SOut
  | some ρ => some (.nx ρ)
  | none => none
theorem nxK_s : nxK (some ρ) = some (.nx ρ) := rfl
def setK (g : TgE) : Option (Out R) → Option SOut
  | some (.ok r ρ) => nxK (g r ρ)
  | some (.ex e ρ) => some (.ex e ρ)
  | none => none
theorem setK_ok {g : TgE} : setK g (some (.ok r ρ)) = nxK (g r ρ) := rfl
theorem setK_ex {g : TgE} : setK g (some (.ex x ρ)) = some (.ex x ρ) := rfl
theorem set_r {g : TgE} : sSet g f ρ = setK g (f ρ) := by
  unfold sSet
  cases f ρ with
  | none => rfl
  | some o => cases o with
    | ok r ρ' => show (g r ρ').map .nx = nxK (g r ρ'); cases g r ρ' <;> rfl
    | ex e ρ' => rfl
/-- statements -/
def seqK (g : EvS) : Option SOut → Option SOut
  | some (.nx ρ) => g ρ
  | m => m
theorem seq_r {f g : EvS} : sSeq f g ρ = seqK g (f ρ) := by
  unfold sSeq
  cases f ρ with
  | none => rfl
  | some o => cases o <;> rfl
theorem seqK_nx {g : EvS} : seqK g (some (.nx ρ)) = g ρ := rfl
theorem seqK_rt {g : EvS} : seqK g (some (.rt r ρ)) = some (.rt r ρ) := rfl
theorem seqK_ro {g : EvS} : seqK g (some (.ro i ρ)) = some (.ro i ρ) := rfl
theorem seqK_bk {g : EvS} : seqK g (some (.bk ρ)) = some (.bk ρ) := rfl
theorem seqK_ct {g : EvS} : seqK g (some (.ct ρ)) = some (.ct ρ) := rfl
theorem seqK_ex {g : EvS} : seqK g (some (.ex x ρ)) = some (.ex x ρ) := rfl
def ifK (f g : EvS) : Option (Out Bool) → Option SOut
  | some (.ok true ρ) => f ρ
  | some (.ok false ρ) => g ρ
  | some (.ex e ρ) => some (.ex e ρ)
  | none => none
theorem ifs_r {f g : EvS} : sIf t f g ρ = ifK f g (t ρ) := by
  unfold sIf
  cases t ρ with
  | none => rfl
  | some o => cases o with
    | ok b ρ' => cases b <;> rfl
    | ex e ρ' => rfl
theorem ifK_t {f g : EvS} : ifK f g (some (.ok true ρ)) = f ρ := rfl
theorem ifK_f {f g : EvS} : ifK f g (some (.ok false ρ)) = g ρ := rfl
theorem nx_r : sNx ρ = some (.nx ρ) := rfl
theorem bk_r : sBk ρ = some (.bk ρ) := rfl
theorem ct_r : sCt ρ = some (.ct ρ) := rfl
def retK : Option (Out R) → Option SOut
  | some (.ok r ρ) => some (.rt r ρ)
  | some (.ex e ρ) => some (.ex e ρ)
  | none => none
theorem rets_r : sRet f ρ = retK (f ρ) := by
  unfold sRet
  cases f ρ with
  | none => rfl
  | some o => cases o <;> rfl
theorem retK_ok : retK (some (.ok r ρ)) = some (.rt r ρ) := rfl
theorem retK_ex : retK (some (.ex x ρ)) = some (.ex x ρ) := rfl
def rsK (i : Nat) (ρ : Sls) : Option Slot → Option SOut
  | some (.v d) => some (.rt ⟨d, false⟩ ρ)
  | some (.own 0 _) => some (.ro i ρ)
  | _ => none
theorem rs_r : sRetSl i ρ = rsK i ρ ρ[i]? := by
  unfold sRetSl rsK
  split <;> simp_all
theorem rsK_v : rsK i ρ (some (.v d)) = some (.rt ⟨d, false⟩ ρ) := rfl
theorem rsK_o : rsK i ρ (some (.own 0 ds)) = some (.ro i ρ) := rfl
theorem retN_r : sRetN ρ = some (.rt ⟨.non, false⟩ ρ) := rfl
def exK : Option (Out R) → Option SOut
  | some (.ok _ ρ) => some (.nx ρ)
  | some (.ex e ρ) => some (.ex e ρ)
  | none => none
theorem expr_r : sExpr f ρ = exK (f ρ) := by
  unfold sExpr
  cases f ρ with
  | none => rfl
  | some o => cases o <;> rfl
theorem exK_ok : exK (some (.ok r ρ)) = some (.nx ρ) := rfl
theorem exK_ex : exK (some (.ex x ρ)) = some (.ex x ρ) := rfl
/-- lists that are changed -/
theorem append_r {l : List Slot} (h : ρ[i]? = some (.own k es)) (hf : f ρ = some (.ok r ρ')) (h' : ρ'[i]? = some (.own k ds)) (hk : k < 2) (hl : ds.length < LIM) : evAppend i f ρ = some (.ok ⟨.non, false⟩ (ρ'.set i (.own k (ds ++ [r.d])))) := by
  unfold evAppend isOwn
  rw [h]
  show (f.bind _) ρ = _
  unfold Ev.bind
  rw [hf]
  show (match ρ'[i]? with | some (.own k ds) => _ | _ => none) = _
  rw [h']
  have : (mutable k && Nat.blt ds.length LIM) = true := by
    rw [Bool.and_eq_true]
    exact ⟨Nat.ble_eq_true_of_le hk, Nat.ble_eq_true_of_le hl⟩
  simp only [this]
theorem pop_r (h : ρ[i]? = some (.own k (ds ++ [d]))) (hk : k < 2) : evPop i ρ = some (.ok ⟨d, false⟩ (ρ.set i (.own k ds))) := by
  unfold evPop
  rw [h]
  have : mutable k = true := Nat.ble_eq_true_of_le hk
  simp only [this, List.getLast?_concat, List.dropLast_concat]
/-- an item of a list is put -/
def isOwnS : Option Slot → Bool
  | some (.own _ _) => true
  | _ => false
theorem isOwn_r : isOwn ρ i = isOwnS ρ[i]? := by
  unfold isOwn isOwnS
  split <;> simp_all
theorem isOwn_o : isOwnS (some (.own k ds)) = true := rfl
def siD (i : Nat) (d : D) (ρ : Sls) (k : Nat) (ds : List D) : Bool → Option Nat → Option SOut
  | true, some m => some (.nx (ρ.set i (.own k (ds.set m d))))
  | _, _ => none
theorem siD_s {m : Nat} : siD i d ρ k ds true (some m) = some (.nx (ρ.set i (.own k (ds.set m d)))) := rfl
def siC (i : Nat) (d : D) (ρ : Sls) : D → Option Slot → Option SOut
  | .int n, some (.own k ds) => siD i d ρ k ds (mutable k) (ixN ds.length n)
  | _, _ => none
theorem siC_s {n : Int} : siC i d ρ (.int n) (some (.own k ds)) = siD i d ρ k ds (mutable k) (ixN ds.length n) := rfl
def siB (i : Nat) (d : D) : Option (Out R) → Option SOut
  | some (.ok j ρ) => siC i d ρ j.d ρ[i]?
  | some (.ex e ρ) => some (.ex e ρ)
  | none => none
theorem siB_ok : siB i d (some (.ok r ρ)) = siC i d ρ r.d ρ[i]? := rfl
def siE (i : Nat) (d : D) (fi : Ev R) (ρ : Sls) : Bool → Option SOut
  | true => siB i d (fi ρ)
  | false => none
theorem siE_t : siE i d f ρ true = siB i d (f ρ) := rfl
def siA (i : Nat) (fi : Ev R) : Option (Out R) → Option SOut
  | some (.ok r ρ) => siE i r.d fi ρ (isOwn ρ i)
  | some (.ex e ρ) => some (.ex e ρ)
  | none => none
theorem siA_ok : siA i f (some (.ok r ρ)) = siE i r.d f ρ (isOwn ρ i) := rfl
theorem siA_ex : siA i f (some (.ex x ρ)) = some (.ex x ρ) := rfl
theorem si_r {fv : Ev R} : sSetIx i f fv ρ = siA i f (fv ρ) := by
  unfold sSetIx Ev.bind
  cases fv ρ with
  | none => rfl
  | some o => cases o with
    | ex e ρ' => rfl
    | ok r ρ1 =>
      show _ = siE i r.d f ρ1 (isOwn ρ1 i)
      cases h : isOwn ρ1 i with
      | false => simp only [h]; rfl
      | true =>
        simp only [h]
        show _ = siB i r.d (f ρ1)
        cases f ρ1 with
        | none => rfl
        | some o => cases o with
          | ex e ρ' => rfl
          | ok j ρ2 =>
            obtain ⟨jd, jf⟩ := j
            show _ = siC i r.d ρ2 jd ρ2[i]?
            dsimp only
            generalize ρ2[i]? = o
            cases jd with
            | int n =>
              cases o with
              | none => rfl
              | some s => cases s with
                | own k ds =>
                  dsimp only
                  show _ = siD i r.d ρ2 k ds (mutable k) (ixN ds.length n)
                  generalize mutable k = m1
                  generalize ixN ds.length n = m2
                  cases m1 <;> cases m2 <;> rfl
                | _ => rfl
            | _ => rfl
/-- calls -/
def crL (rs : List (Nat ⊕ D)) (ρ : Sls) : Option (Out R) → Option (Out R)
  | some (.ok r sl) => some (.ok r (backSl ρ rs sl))
  | some (.ex e sl) => some (.ex e (backSl ρ rs sl))
  | none => none
def crK (fe : Ev R) (rs : List (Nat ⊕ D)) (ρ : Sls) : Option Sls → Bool → Option (Out R)
  | some sl, true => crL rs ρ (fe sl)
  | _, _ => none
theorem crK_s : crK fe rs ρ (some sl) true = crL rs ρ (fe sl) := rfl
theorem crL_ok : crL rs ρ (some (.ok r sl)) = some (.ok r (backSl ρ rs sl)) := rfl
theorem crL_ex : crL rs ρ (some (.ex x sl)) = some (.ex x (backSl ρ rs sl)) := rfl
def nodB (l : List Nat) : Bool := decide l.Nodup
theorem nod_n : nodB [] = true := rfl
theorem nod_1 : nodB [i] = true := by simp [nodB]
theorem cr_r : evCallR fe rs ρ = crK fe rs ρ (argSl ρ rs) (nodB (ownLate ρ rs)) := by
  unfold evCallR nodB
  cases argSl ρ rs with
  | none => rfl
  | some sl => cases decide (ownLate ρ rs).Nodup with
    | false => rfl
    | true => show (match fe sl with | none => none | some (.ok r sl') => _ | some (.ex e sl') => _) = crL rs ρ (fe sl); cases fe sl with
      | none => rfl
      | some o => cases o <;> rfl
theorem call_r : evCall fe as ρ = k1 (evAs as ρ) (evCallR fe) := rfl
def ckA (fe : Ev R) (perm : List Nat) : List (Nat ⊕ D) → Ev R := fun rs ρ => match permL rs perm with
  | some rs' => evCallR fe rs' ρ
  | none => none
theorem ckA_r {p : List Nat} : ckA fe p rs ρ = (match permL rs p with | some rs' => evCallR fe rs' ρ | none => none) := rfl
theorem callK_r {p : List Nat} : evCallK fe as p ρ = k1 (evAs as ρ) (ckA fe p) := rfl
def agR (d : D) (m : Option Sls) : Option Sls := m.map (.v d :: ·)
theorem agR_s : agR d (some ρ) = some (.v d :: ρ) := rfl
def agL : Option Slot → Option Sls → Option Sls
  | some (.v d), some as => some (.v d :: as)
  | some (.own k ds), some as => some (.own (if Nat.blt k 2 then 1 else 3) ds :: as)
  | _, _ => none
theorem ag_nil : argSl ρ [] = some [] := rfl
theorem ag_r : argSl ρ (.inr d :: rs) = agR d (argSl ρ rs) := rfl
theorem ag_l : argSl ρ (.inl i :: rs) = agL ρ[i]? (argSl ρ rs) := by
  simp only [argSl]
  unfold agL
  split <;> simp_all
theorem agL_v : agL (some (.v d)) (some ρ) = some (.v d :: ρ) := rfl
theorem agL_o : agL (some (.own k ds)) (some ρ) = some (.own (if Nat.blt k 2 then 1 else 3) ds :: ρ) := rfl
def olK (i : Nat) (l : List Nat) : Option Slot → List Nat
  | some (.own _ _) => i :: l
  | _ => l
theorem ol_nil : ownLate ρ [] = [] := rfl
theorem ol_r : ownLate ρ (.inr d :: rs) = ownLate ρ rs := rfl
theorem ol_l : ownLate ρ (.inl i :: rs) = olK i (ownLate ρ rs) ρ[i]? := by
  simp only [ownLate]
  unfold olK
  split <;> simp_all
theorem olK_v {l} : olK i l (some (.v d)) = l := rfl
theorem olK_o {l} : olK i l (some (.own k ds)) = i :: l := rfl
def bkK (i : Nat) (b : Sls) : Option Slot → Slot → Sls
  | some (.own k _), .own _ ds => b.set i (.own k ds)
  | _, _ => b
theorem bk_nil : backSl ρ [] sl = ρ := by cases sl <;> rfl
theorem bkr {s : Slot} : backSl ρ (.inr d :: rs) (s :: sl) = backSl ρ rs sl := by simp only [backSl]
theorem bkl {s : Slot} : backSl ρ (.inl i :: rs) (s :: sl) = bkK i (backSl ρ rs sl) ρ[i]? s := by
  simp only [backSl]
  unfold bkK
  split <;> simp_all
theorem bkK_v {s : Slot} {b : Sls} : bkK i b (some (.v d)) s = b := by cases s <;> rfl
theorem bkK_o {b : Sls} {k' : Nat} : bkK i b (some (.own k es)) (.own k' ds) = b.set i (.own k ds) := rfl
/-- a def -/
def dfB (as : Sls) : Option SOut → Option (Out R)
  | some (.nx ρ) => some (.ok ⟨.non, false⟩ (backA as ρ))
  | some (.rt r ρ) => some (.ok r (backA as ρ))
  | some (.ro i ρ) => match ρ[i]? with
    | some (.own 0 ds) => some (.ok ⟨.lst ds, true⟩ (backA as ρ))
    | _ => none
  | some (.ex e ρ) => some (.ex e (backA as ρ))
  | _ => none
def dfA (body : EvS) (as : Sls) (m : Nat) : Bool → Option (Out R)
  | true => dfB as (body (as ++ List.replicate m .unk))
  | false => none
theorem dfA_t {body : EvS} : dfA body ρ n true = dfB ρ (body (ρ ++ List.replicate n .unk)) := rfl
theorem df_r {body : EvS} : defEv n k body ρ = dfA body ρ k (Nat.beq ρ.length n && noMine ρ) := by
  unfold defEv
  cases (Nat.beq ρ.length n && noMine ρ) with
  | false => rfl
  | true =>
    show (match body (ρ ++ List.replicate k .unk) with | some (.nx ρ') => _ | some (.rt r ρ') => _ | some (.ro i ρ') => _ | some (.ex e ρ') => _ | _ => none) = dfB ρ (body (ρ ++ List.replicate k .unk))
    cases body (ρ ++ List.replicate k .unk) with
    | none => rfl
    | some o => cases o <;> rfl
theorem dfB_nx : dfB ρ (some (.nx ρ')) = some (.ok ⟨.non, false⟩ (backA ρ ρ')) := rfl
theorem dfB_rt : dfB ρ (some (.rt r ρ')) = some (.ok r (backA ρ ρ')) := rfl
theorem dfB_ro (h : ρ'[i]? = some (.own 0 ds)) : dfB ρ (some (.ro i ρ')) = some (.ok ⟨.lst ds, true⟩ (backA ρ ρ')) := by
  unfold dfB
  simp only [h]
theorem dfB_ex : dfB ρ (some (.ex x ρ')) = some (.ex x (backA ρ ρ')) := rfl
theorem ba_v {s : Slot} : backA (.v d :: ρ) (s :: ρ') = .v d :: backA ρ ρ' := by cases s <;> rfl
theorem ba_o {s : Slot} : backA (.own k ds :: ρ) (s :: ρ') = s :: backA ρ ρ' := by cases s <;> rfl
theorem ba_n : backA [] ρ = [] := by cases ρ <;> rfl
theorem nm_n : noMine [] = true := rfl
theorem nm_v : noMine (.v d :: ρ) = noMine ρ := rfl
theorem nm_o : noMine (.own k ds :: ρ) = (Nat.blt 0 k && noMine ρ) := rfl
end
end L3
namespace L3
open PySem L2
/-! primitives on known values -/
section
variable {i j : Int} {a b : Bool} {ds es : List D} {d e : D} {fr : Bool}
theorem p_add : gAdd [.int i, .int j] = some ⟨.int (i + j), false⟩ := rfl
theorem p_addL (h : ds.length + es.length ≤ LIM) : gAdd [.lst ds, .lst es] = some ⟨.lst (ds ++ es), true⟩ := by
  show gd (Nat.ble (ds.length + es.length) LIM) _ = _
  rw [Nat.ble_eq_true_of_le h]; rfl
theorem p_addT (h : ds.length + es.length ≤ LIM) : gAdd [.tup ds, .tup es] = some ⟨.tup (ds ++ es), false⟩ := by
  show gd (Nat.ble (ds.length + es.length) LIM) _ = _
  rw [Nat.ble_eq_true_of_le h]; rfl
theorem p_sub : L3.gSub [.int i, .int j] = some ⟨.int (i - j), false⟩ := rfl
theorem p_mul : gMul [.int i, .int j] = gd (small64 i || small64 j || Nat.blt (i.natAbs.log2 + j.natAbs.log2) 1000000) ⟨.int (i * j), false⟩ := rfl
theorem p_mod : gMod [.int i, .int j] = gd (decide (0 < j)) ⟨.int (i % j), false⟩ := rfl
theorem p_fdiv : gFdiv [.int i, .int j] = gd (decide (0 < j) && Nat.blt j.natAbs.log2 9000) ⟨.int (i / j), false⟩ := rfl
theorem p_neg : gNeg [.int i] = some ⟨.int (-i), false⟩ := rfl
theorem p_int : gInt [.int i] = some ⟨.int i, false⟩ := rfl
theorem p_intB : gInt [.bl a] = some ⟨.int (bi a), false⟩ := rfl
theorem p_cmp {p : Int → Int → Bool} : gCmp p [.int i, .int j] = some ⟨.bl (p i j), false⟩ := rfl
theorem p_ixL : gIx [.lst ds, .int i] = (atI ds i).map fun e => ⟨e, false⟩ := rfl
theorem p_ixT : gIx [.tup ds, .int i] = (atI ds i).map fun e => ⟨e, false⟩ := rfl
theorem p_ixF : gIx [.fls ds, .int i] = (atI ds i).map fun e => ⟨e, false⟩ := rfl
theorem p_tup (h : ds.length ≤ LIM) : gTup ds = some ⟨.tup ds, false⟩ := by
  show gd (Nat.ble ds.length LIM) _ = _
  rw [Nat.ble_eq_true_of_le h]; rfl
theorem p_lst (h : ds.length ≤ LIM) : gLst ds = some ⟨.lst ds, true⟩ := by
  show gd (Nat.ble ds.length LIM) _ = _
  rw [Nat.ble_eq_true_of_le h]; rfl
theorem p_lenL : gLen [.lst ds] = some ⟨.int ds.length, false⟩ := rfl
theorem p_lenT : gLen [.tup ds] = some ⟨.int ds.length, false⟩ := rfl
theorem p_lenF : gLen [.fls ds] = some ⟨.int ds.length, false⟩ := rfl
theorem p_listT : gList [.tup ds] = some ⟨.lst ds, true⟩ := rfl
theorem p_listL : gList [.lst ds] = some ⟨.lst ds, true⟩ := rfl
theorem p_tupleL : gTuple [.lst ds] = some ⟨.tup ds, false⟩ := rfl
theorem p_tupleT : gTuple [.tup ds] = some ⟨.tup ds, false⟩ := rfl
end
end L3

/-! M1: what the law's own helpers come to. -/
namespace L3
open PySem L2
def tTake (cal : Nat → Ev R) : EvS :=
  sSeq (sIf (evTB (evPr (gCmp fun i j => decide (j < i)) [.e (evPr gIx [.late 0, .e (evK (.int (0)))]), .e (evK (.int (0)))]))
    (sSeq (sSet (asgSl 2) (evPr gMod [.e (evPr gInt [.e (evPr gIx [.late 0, .e (evK (.int (0)))])]), .late 1]))
    (sSeq (sSetIx 0 (evK (.int (0))) (evPr gFdiv [.e (evPr gIx [.late 0, .e (evK (.int (0)))]), .late 1]))
    (sRetSl 2)))
    (sNx))
  (sSeq (sSetIx 0 (evK (.int (2))) (evPr gAdd [.e (evPr gIx [.late 0, .e (evK (.int (2)))]), .e (evK (.int (1)))]))
  (sSeq (sSet (asgSl 3) (evPr gMod [.e (evPr gInt [.e (evPr gMul [.e (evPr gAdd [.e (evPr gIx [.late 0, .e (evK (.int (1)))]), .e (evPr gMul [.e (evK (.int (48271))), .e (evPr gIx [.late 0, .e (evK (.int (2)))])])]), .e (evPr gAdd [.e (evK (.int (39373))), .e (evPr gIx [.late 0, .e (evK (.int (2)))])])])]), .e (evK (.int (2147483647)))]))
  (sSeq (sSet (asgSl 4) (evPr gAdd [.e (evPr gMod [.e (evPr gInt [.late 3]), .e (evK (.int (40009)))]), .e (evK (.int (7)))]))
  (sSeq (sSet (asgSl 5) (evPr gMod [.e (evPr gInt [.e (evPr gMul [.e (evPr gAdd [.e (evPr gAdd [.late 3, .e (evPr gIx [.late 0, .e (evK (.int (2)))])]), .e (evPr gFdiv [.e (evPr gIx [.late 0, .e (evK (.int (1)))]), .e (evK (.int (1000003)))])]), .late 4])]), .e (evK (.int (2147483629)))]))
  (sRet (evPr gMod [.e (evPr gInt [.e (evPr gFdiv [.e (evPr gMod [.e (evPr gInt [.e (evPr gAdd [.e (evPr gMul [.late 5, .e (evK (.int (48271)))]), .late 3])]), .e (evK (.int (2147483587)))]), .e (evK (.int (64)))])]), .late 1]))))))

theorem at0 {α : Type} {a : α} {l : List α} : atI (a :: l) 0 = some a := by
  unfold atI ixN
  simp
theorem at1 {α : Type} {a b : α} {l : List α} : atI (a :: b :: l) 1 = some b := by
  unfold atI ixN
  rw [if_pos (by decide), if_pos (by simp only [List.length_cons]; omega)]
  rfl
theorem at2 {α : Type} {a b c : α} {l : List α} : atI (a :: b :: c :: l) 2 = some c := by
  unfold atI ixN
  rw [if_pos (by decide), if_pos (by simp only [List.length_cons]; omega)]
  rfl
theorem ix30 : ixN 3 0 = some 0 := rfl
theorem ix32 : ixN 3 2 = some 2 := rfl
theorem log_small {b : Int} (h1 : 0 < b) (h2 : b < 2 ^ 62) : Nat.blt b.natAbs.log2 9000 = true := by
  refine Nat.ble_eq_true_of_le ?_
  have : b.natAbs < 2 ^ 62 := by omega
  have q := (Nat.log2_lt (by omega)).mpr this
  omega
theorem take_big {cal : Nat → Ev R} {k : Nat} {x y z b : Int} (hx : 0 < x) (hb : 0 < b) (hk : k < 2) (hb2 : b < 2 ^ 62) :
    tTake cal [.own k [.int x, .int y, .int z], .v (.int b), .unk, .unk, .unk, .unk] = some (.rt ⟨.int (x % b), false⟩ [.own k [.int (x / b), .int y, .int z], .v (.int b), .v (.int (x % b)), .unk, .unk, .unk]) := by
  have hx' : decide (0 < x) = true := decide_eq_true hx
  have hb' : decide (0 < b) = true := decide_eq_true hb
  have hl := log_small hb hb2
  unfold tTake
  have hm : mutable k = true := Nat.ble_eq_true_of_le hk
  simp (config := { decide := false }) only [k1_ok, k1_ex, k1_no, ret_r, asF_r, asE_r, asI_r, asL_t, as_nil, as_e, as_l, isSet_r, isSet_v, isSet_o, fdR_s, fd_nil, fd_r, fd_l, fdL_v, fdL_o, prC_s, prB_s, prA_r, pr_r, gd_t, sl_r, slK_v, slK_o, k_r, tb_r, tbA_r, tC_s, tB_s, tA_r, t_r, noA_r, not_r, anA_t, anA_f, and_r, orA_t, orA_f, or_r, ifA_t, ifA_f, if_r, anV_t, anV_f, anU_r, andV_r, orV_t, orV_f, orU_r, orV_r, ntV_s, ntU_r, notV_r, tru_b, tru_i, tru_n, tru_t, tru_l, tru_f, free_r, free_u, free_v, free_o, asgK_t, asg_r, asgM_f, asgM_l, asgM_t, acK_s, ac_r, an_r, atL_t, atK_s, at_r, sq_t, sq_l, sq_f, nxK_s, setK_ok, setK_ex, set_r, seq_r, seqK_nx, seqK_rt, seqK_ro, seqK_bk, seqK_ct, seqK_ex, ifs_r, ifK_t, ifK_f, nx_r, bk_r, ct_r, rets_r, retK_ok, retK_ex, rs_r, rsK_v, rsK_o, retN_r, expr_r, exK_ok, exK_ex, crK_s, crL_ok, crL_ex, cr_r, nod_n, nod_1, call_r, ckA_r, callK_r, agR_s, ag_nil, ag_r, ag_l, agL_v, agL_o, ol_nil, ol_r, ol_l, olK_v, olK_o, bk_nil, bkr, bkl, bkK_v, bkK_o, si_r, siA_ok, siA_ex, siE_t, siB_ok, siC_s, siD_s, isOwn_r, isOwn_o, dfA_t, df_r, dfB_nx, dfB_rt, dfB_ex, ba_v, ba_o, ba_n, nm_n, nm_v, nm_o, p_add, p_sub, p_mul, p_mod, p_fdiv, p_neg, p_int, p_intB, p_cmp, p_ixL, p_ixT, p_ixF, p_lenL, p_lenT, p_lenF, p_listT, p_listL, p_tupleL, p_tupleT, List.getElem?_cons_zero, List.getElem?_cons_succ, List.getElem?_nil, List.set_cons_zero, List.set_cons_succ, List.length_cons, List.length_nil, Option.map_some, Option.map_none, List.cons_append, List.nil_append, List.append_nil, Bool.and_true, Bool.true_and, Bool.or_true, Bool.true_or, Bool.and_false, Bool.false_and, Bool.or_false, Bool.false_or, Bool.not_true, Bool.not_false, decide_true, decide_false, at0, at1, at2, hx', hb', hl, hm, ix30, ix32, Nat.reduceAdd]
theorem small_of {i : Int} (h1 : -18446744073709551616 < i) (h2 : i < 18446744073709551616) : small64 i = true := by
  unfold small64
  rw [decide_eq_true h1, decide_eq_true h2]; rfl
theorem take_small {cal : Nat → Ev R} {k : Nat} {x y z b : Int} (hx : ¬ 0 < x) (hb : 0 < b) (hk : k < 2) (hb2 : b < 2 ^ 62) (hy0 : 0 ≤ y) (hy : y < 2 ^ 62) (hz0 : 0 ≤ z) (hz : z < 2 ^ 40) :
    ∃ r s3 s4 s5, 0 ≤ r ∧ r < b ∧ tTake cal [.own k [.int x, .int y, .int z], .v (.int b), .unk, .unk, .unk, .unk] = some (.rt ⟨.int r, false⟩ [.own k [.int x, .int y, .int (z + 1)], .v (.int b), .unk, s3, s4, s5]) := by
  have hx' : decide (0 < x) = false := decide_eq_false hx
  have hb' : decide (0 < b) = true := decide_eq_true hb
  have hm : mutable k = true := Nat.ble_eq_true_of_le hk
  have s1 : ∀ i : Int, (small64 48271 || small64 i || Nat.blt ((48271 : Int).natAbs.log2 + i.natAbs.log2) 1000000) = true := fun i => by
    rw [small_of (by decide) (by decide)]; rfl
  have q1 : decide ((0 : Int) < 2147483647) = true := rfl
  have q2 : decide ((0 : Int) < 40009) = true := rfl
  have q3 : decide ((0 : Int) < 2147483629) = true := rfl
  have q4 : decide ((0 : Int) < 2147483587) = true := rfl
  have q5 : (decide ((0 : Int) < 64) && Nat.blt (64 : Int).natAbs.log2 9000) = true := by decide
  have q6 : (decide ((0 : Int) < 1000003) && Nat.blt (1000003 : Int).natAbs.log2 9000) = true := by decide +kernel
  have m1 : small64 (39373 + (z + 1)) = true := small_of (by omega) (by omega)
  have m2 : ∀ w : Int, small64 (w % 40009 + 7) = true := fun w => by
    have := Int.emod_nonneg w (show (40009 : Int) ≠ 0 by decide)
    have := Int.emod_lt_of_pos w (show (0 : Int) < 40009 by decide)
    exact small_of (by omega) (by omega)
  have m3 : small64 (48271 : Int) = true := by decide
  refine ⟨?w % b, ?s3, ?s4, ?s5, Int.emod_nonneg _ (by omega), Int.emod_lt_of_pos _ hb, ?h⟩
  case h =>
    unfold tTake
    simp (config := { decide := false }) only [k1_ok, k1_ex, k1_no, ret_r, asF_r, asE_r, asI_r, asL_t, as_nil, as_e, as_l, isSet_r, isSet_v, isSet_o, fdR_s, fd_nil, fd_r, fd_l, fdL_v, fdL_o, prC_s, prB_s, prA_r, pr_r, gd_t, sl_r, slK_v, slK_o, k_r, tb_r, tbA_r, tC_s, tB_s, tA_r, t_r, noA_r, not_r, anA_t, anA_f, and_r, orA_t, orA_f, or_r, ifA_t, ifA_f, if_r, anV_t, anV_f, anU_r, andV_r, orV_t, orV_f, orU_r, orV_r, ntV_s, ntU_r, notV_r, tru_b, tru_i, tru_n, tru_t, tru_l, tru_f, free_r, free_u, free_v, free_o, asgK_t, asg_r, asgM_f, asgM_l, asgM_t, acK_s, ac_r, an_r, atL_t, atK_s, at_r, sq_t, sq_l, sq_f, nxK_s, setK_ok, setK_ex, set_r, seq_r, seqK_nx, seqK_rt, seqK_ro, seqK_bk, seqK_ct, seqK_ex, ifs_r, ifK_t, ifK_f, nx_r, bk_r, ct_r, rets_r, retK_ok, retK_ex, rs_r, rsK_v, rsK_o, retN_r, expr_r, exK_ok, exK_ex, crK_s, crL_ok, crL_ex, cr_r, nod_n, nod_1, call_r, ckA_r, callK_r, agR_s, ag_nil, ag_r, ag_l, agL_v, agL_o, ol_nil, ol_r, ol_l, olK_v, olK_o, bk_nil, bkr, bkl, bkK_v, bkK_o, si_r, siA_ok, siA_ex, siE_t, siB_ok, siC_s, siD_s, isOwn_r, isOwn_o, dfA_t, df_r, dfB_nx, dfB_rt, dfB_ex, ba_v, ba_o, ba_n, nm_n, nm_v, nm_o, p_add, p_sub, p_mul, p_mod, p_fdiv, p_neg, p_int, p_intB, p_cmp, p_ixL, p_ixT, p_ixF, p_lenL, p_lenT, p_lenF, p_listT, p_listL, p_tupleL, p_tupleT, List.getElem?_cons_zero, List.getElem?_cons_succ, List.getElem?_nil, List.set_cons_zero, List.set_cons_succ, List.length_cons, List.length_nil, Option.map_some, Option.map_none, List.cons_append, List.nil_append, List.append_nil, Bool.and_true, Bool.true_and, Bool.or_true, Bool.true_or, Bool.and_false, Bool.false_and, Bool.or_false, Bool.false_or, Bool.not_true, Bool.not_false, decide_true, decide_false, at0, at1, at2, hx', hb', hm, ix30, ix32, Nat.reduceAdd, s1, m1, m2, m3, q1, q2, q3, q4, q5, q6]
    rfl

/-- a source of draws -/
abbrev bx (x y z : Int) : List D := [.int x, .int y, .int z]
/-- how a source of draws may stand, c draws more being allowed -/
def Bx (x y z : Int) (c : Nat) : Prop := 0 ≤ x ∧ 0 ≤ y ∧ y < 2 ^ 62 ∧ 0 ≤ z ∧ z + c ≤ 2 ^ 40
theorem Bx.less {x y z : Int} {c c' : Nat} (h : Bx x y z c) (hc : c' ≤ c) : Bx x y z c' := ⟨h.1, h.2.1, h.2.2.1, h.2.2.2.1, by have := h.2.2.2.2; omega⟩
def TakeOk (fe : Ev R) : Prop := ∀ (x y z b : Int) (c : Nat), Bx x y z (c + 1) → 0 < b → b < 2 ^ 62 → ∃ r x' z', 0 ≤ r ∧ r < b ∧ Bx x' y z' c ∧ fe [.own 1 (bx x y z), .v (.int b)] = some (.ok ⟨.int r, false⟩ [.own 1 (bx x' y z'), .v (.int b)])
theorem blt01 : Nat.blt 0 1 = true := rfl
theorem take_ok {cal : Nat → Ev R} : TakeOk (defEv 2 4 (tTake cal)) := by
  intro x y z b c B hb hb2
  obtain ⟨h1, h2, h3, h4, h5⟩ := B
  have go : ∀ r σ', tTake cal [.own 1 (bx x y z), .v (.int b), .unk, .unk, .unk, .unk] = some (.rt ⟨.int r, false⟩ σ') → defEv 2 4 (tTake cal) [.own 1 (bx x y z), .v (.int b)] = some (.ok ⟨.int r, false⟩ (backA [.own 1 (bx x y z), .v (.int b)] σ')) := fun r σ' e => by
    have e' : tTake cal ([Slot.own 1 (bx x y z), Slot.v (D.int b)] ++ List.replicate 4 Slot.unk) = _ := e
    rw [df_r]
    show dfB _ (tTake cal ([Slot.own 1 (bx x y z), Slot.v (D.int b)] ++ List.replicate 4 Slot.unk)) = _
    rw [e']; rfl
  by_cases hx : 0 < x
  · refine ⟨_, x / b, z, Int.emod_nonneg _ (by omega), Int.emod_lt_of_pos _ hb, ⟨Int.ediv_nonneg h1 (by omega), h2, h3, h4, by omega⟩, go _ _ (take_big hx hb (by decide) hb2)⟩
  · obtain ⟨r, s3, s4, s5, q1, q2, e⟩ := take_small (cal := cal) (k := 1) hx hb (by decide) hb2 h2 h3 h4 (by omega : z < 2 ^ 40)
    exact ⟨r, x, z + 1, q1, q2, ⟨h1, h2, h3, by omega, by omega⟩, go _ _ e⟩
/-! groupings -/
inductive Tr where
  | leaf (i : Int)
  | node (l r : Tr)
def Tr.d : Tr → D
  | .leaf i => .int i
  | .node l r => .tup [l.d, r.d]
def Grp : Int → Int → Tr → Prop
  | a, b, .leaf i => i = a ∧ a = b
  | a, b, .node l r => ∃ m, Grp a m l ∧ Grp (m + 1) b r
theorem Grp.le : ∀ {t : Tr} {a b : Int}, Grp a b t → a ≤ b
  | .leaf i, a, b, h => by have := h.2; omega
  | .node l r, a, b, ⟨m, h1, h2⟩ => by have := h1.le; have := h2.le; omega
def tGrouped (take self : Ev R) : EvS :=
  sSeq (sIf (evTB (evPr (gEq id) [.late 1, .late 2]))
    (sRetSl 1)
    (sNx))
  (sSeq (sSet (asgSl 3) (evCall take [.late 0, .e (evK (.int (4)))]))
  (sSeq (sSet (asgSl 4) (evPr gAdd [.late 1, .e (evCall take [.late 0, .e (evPr L3.gSub [.late 2, .late 1])])]))
  (sSeq (sIf (evTB (evPr (gEq id) [.late 3, .e (evK (.int (0)))]))
    (sSet (asgSl 4) (evPr L3.gSub [.late 2, .e (evK (.int (1)))]))
    (sNx))
  (sSeq (sIf (evTB (evPr (gEq id) [.late 3, .e (evK (.int (1)))]))
    (sSet (asgSl 4) (evSl 1))
    (sNx))
  (sRet (evPr gTup [.e (evCall self [.late 0, .e (evSl 1), .e (evSl 4)]), .e (evCall self [.late 0, .e (evPr gAdd [.late 4, .e (evK (.int (1)))]), .e (evSl 2)])]))))))

def GroupedOk (fe : Ev R) (n : Nat) : Prop := ∀ (a b x y z : Int) (c : Nat), a ≤ b → b - a < n → -(2 ^ 60) < a → b < 2 ^ 60 → Bx x y z (c + 2 * (b - a).toNat) →
  ∃ t x' z', Grp a b t ∧ Bx x' y z' c ∧ fe [.own 1 (bx x y z), .v (.int a), .v (.int b)] = some (.ok ⟨t.d, false⟩ [.own 1 (bx x' y z'), .v (.int a), .v (.int b)])
theorem eqI {f : Bool → Bool} {i j : Int} : gEq f [.int i, .int j] = some ⟨.bl (f (decide (i = j))), false⟩ := by
  show gd (Nat.ble (max (D.int i).dep (D.int j).dep) 64) ⟨.bl (f (D.eqB (.int i) (.int j))), false⟩ = _
  have h1 : ∀ k : Int, (D.int k).dep = 0 := fun _ => rfl
  have h2 : D.eqB (.int i) (.int j) = decide (i = j) := by
    unfold D.eqB
    rfl
  have h3 : Nat.ble (max (D.int i).dep (D.int j).dep) 64 = true := by
    rw [h1, h1]; rfl
  rw [h2, h3]; rfl
theorem blt12 : Nat.blt 1 2 = true := rfl
theorem grouped_fin {take self : Ev R} {n : Nat} (S : GroupedOk self n) {a b y x2 z2 w m : Int} {c : Nat} (hn : b - a < n + 1) (ha : -(2 ^ 60) < a) (hb : b < 2 ^ 60) (h1 : a ≤ m) (h2 : m < b) (B : Bx x2 y z2 (c + 2 * (b - a).toNat - 2)) :
    ∃ t x' z', Grp a b t ∧ Bx x' y z' c ∧ sRet (evPr gTup [.e (evCall self [.late 0, .e (evSl 1), .e (evSl 4)]), .e (evCall self [.late 0, .e (evPr gAdd [.late 4, .e (evK (.int (1)))]), .e (evSl 2)])])
      [.own 1 [.int x2, .int y, .int z2], .v (.int a), .v (.int b), .v (.int w), .v (.int m)] = some (.rt ⟨t.d, false⟩ [.own 1 [.int x', .int y, .int z'], .v (.int a), .v (.int b), .v (.int w), .v (.int m)]) := by
  obtain ⟨t1, x3, z3, g1, B3, e3⟩ := S a m x2 y z2 (c + 2 * (b - (m + 1)).toNat) h1 (by omega) ha (by omega) (B.less (by omega))
  obtain ⟨t2, x4, z4, g2, B4, e4⟩ := S (m + 1) b x3 y z3 c (by omega) (by omega) (by omega) hb B3
  have hl : ([t1.d, t2.d] : List D).length ≤ LIM := by show 2 ≤ LIM; decide
  refine ⟨.node t1 t2, x4, z4, ⟨m, g1, g2⟩, B4, ?_⟩
  simp (config := { decide := false }) only [k1_ok, k1_ex, k1_no, ret_r, asF_r, asE_r, asI_r, asL_t, as_nil, as_e, as_l, isSet_r, isSet_v, isSet_o, fdR_s, fd_nil, fd_r, fd_l, fdL_v, fdL_o, prC_s, prB_s, prA_r, pr_r, gd_t, sl_r, slK_v, slK_o, k_r, tb_r, tbA_r, tC_s, tB_s, tA_r, t_r, noA_r, not_r, anA_t, anA_f, and_r, orA_t, orA_f, or_r, ifA_t, ifA_f, if_r, anV_t, anV_f, anU_r, andV_r, orV_t, orV_f, orU_r, orV_r, ntV_s, ntU_r, notV_r, tru_b, tru_i, tru_n, tru_t, tru_l, tru_f, free_r, free_u, free_v, free_o, asgK_t, asg_r, asgM_f, asgM_l, asgM_t, acK_s, ac_r, an_r, atL_t, atK_s, at_r, sq_t, sq_l, sq_f, nxK_s, setK_ok, setK_ex, set_r, seq_r, seqK_nx, seqK_rt, seqK_ro, seqK_bk, seqK_ct, seqK_ex, ifs_r, ifK_t, ifK_f, nx_r, bk_r, ct_r, rets_r, retK_ok, retK_ex, rs_r, rsK_v, rsK_o, retN_r, expr_r, exK_ok, exK_ex, crK_s, crL_ok, crL_ex, cr_r, nod_n, nod_1, call_r, ckA_r, callK_r, agR_s, ag_nil, ag_r, ag_l, agL_v, agL_o, ol_nil, ol_r, ol_l, olK_v, olK_o, bk_nil, bkr, bkl, bkK_v, bkK_o, si_r, siA_ok, siA_ex, siE_t, siB_ok, siC_s, siD_s, isOwn_r, isOwn_o, dfA_t, df_r, dfB_nx, dfB_rt, dfB_ex, ba_v, ba_o, ba_n, nm_n, nm_v, nm_o, p_add, p_sub, p_mul, p_mod, p_fdiv, p_neg, p_int, p_intB, p_cmp, p_ixL, p_ixT, p_ixF, p_lenL, p_lenT, p_lenF, p_listT, p_listL, p_tupleL, p_tupleT, List.getElem?_cons_zero, List.getElem?_cons_succ, List.getElem?_nil, List.set_cons_zero, List.set_cons_succ, List.length_cons, List.length_nil, Option.map_some, Option.map_none, List.cons_append, List.nil_append, List.append_nil, Bool.and_true, Bool.true_and, Bool.or_true, Bool.true_or, Bool.and_false, Bool.false_and, Bool.or_false, Bool.false_or, Bool.not_true, Bool.not_false, decide_true, decide_false, e3, e4, blt12, if_true, ite_true, p_tup hl]
  rfl
theorem grouped_ok {take self : Ev R} {n : Nat} (T : TakeOk take) (S : GroupedOk self n) : GroupedOk (defEv 3 2 (tGrouped take self)) (n + 1) := by
  intro a b x y z c hab hn ha hb B
  by_cases e : a = b
  · subst e
    refine ⟨.leaf a, x, z, ⟨rfl, rfl⟩, B.less (by omega), ?_⟩
    unfold tGrouped
    have e1 : decide (a = a) = true := decide_eq_true rfl
    simp (config := { decide := false }) only [k1_ok, k1_ex, k1_no, ret_r, asF_r, asE_r, asI_r, asL_t, as_nil, as_e, as_l, isSet_r, isSet_v, isSet_o, fdR_s, fd_nil, fd_r, fd_l, fdL_v, fdL_o, prC_s, prB_s, prA_r, pr_r, gd_t, sl_r, slK_v, slK_o, k_r, tb_r, tbA_r, tC_s, tB_s, tA_r, t_r, noA_r, not_r, anA_t, anA_f, and_r, orA_t, orA_f, or_r, ifA_t, ifA_f, if_r, anV_t, anV_f, anU_r, andV_r, orV_t, orV_f, orU_r, orV_r, ntV_s, ntU_r, notV_r, tru_b, tru_i, tru_n, tru_t, tru_l, tru_f, free_r, free_u, free_v, free_o, asgK_t, asg_r, asgM_f, asgM_l, asgM_t, acK_s, ac_r, an_r, atL_t, atK_s, at_r, sq_t, sq_l, sq_f, nxK_s, setK_ok, setK_ex, set_r, seq_r, seqK_nx, seqK_rt, seqK_ro, seqK_bk, seqK_ct, seqK_ex, ifs_r, ifK_t, ifK_f, nx_r, bk_r, ct_r, rets_r, retK_ok, retK_ex, rs_r, rsK_v, rsK_o, retN_r, expr_r, exK_ok, exK_ex, crK_s, crL_ok, crL_ex, cr_r, nod_n, nod_1, call_r, ckA_r, callK_r, agR_s, ag_nil, ag_r, ag_l, agL_v, agL_o, ol_nil, ol_r, ol_l, olK_v, olK_o, bk_nil, bkr, bkl, bkK_v, bkK_o, si_r, siA_ok, siA_ex, siE_t, siB_ok, siC_s, siD_s, isOwn_r, isOwn_o, dfA_t, df_r, dfB_nx, dfB_rt, dfB_ex, ba_v, ba_o, ba_n, nm_n, nm_v, nm_o, p_add, p_sub, p_mul, p_mod, p_fdiv, p_neg, p_int, p_intB, p_cmp, p_ixL, p_ixT, p_ixF, p_lenL, p_lenT, p_lenF, p_listT, p_listL, p_tupleL, p_tupleT, List.getElem?_cons_zero, List.getElem?_cons_succ, List.getElem?_nil, List.set_cons_zero, List.set_cons_succ, List.length_cons, List.length_nil, Option.map_some, Option.map_none, List.cons_append, List.nil_append, List.append_nil, Bool.and_true, Bool.true_and, Bool.or_true, Bool.true_or, Bool.and_false, Bool.false_and, Bool.or_false, Bool.false_or, Bool.not_true, Bool.not_false, decide_true, decide_false, List.replicate, eqI, e1, id, blt01, Nat.beq, Nat.reduceAdd]
    rfl
  · have hlt : a < b := by omega
    have e1 : decide (a = b) = false := decide_eq_false e
    obtain ⟨r1, x1, z1, q1, q2, B1, f1⟩ := T x y z 4 (c + 2 * (b - a).toNat - 1) (B.less (by omega)) (by decide) (by decide)
    obtain ⟨r2, x2, z2, q3, q4, B2, f2⟩ := T x1 y z1 (b - a) (c + 2 * (b - a).toNat - 2) (B1.less (by omega)) (by omega) (by omega)
    have fin : ∀ mm, a ≤ mm → mm < b → (mm = if r1 = 0 then b - 1 else if r1 = 1 then a else a + r2) → ∃ t x' z', Grp a b t ∧ Bx x' y z' c ∧ defEv 3 2 (tGrouped take self) [.own 1 (bx x y z), .v (.int a), .v (.int b)] = some (.ok ⟨t.d, false⟩ [.own 1 (bx x' y z'), .v (.int a), .v (.int b)]) := fun mm m1 m2 m3 => by
      obtain ⟨t, x', z', g, B', f⟩ := grouped_fin (take := take) (w := r1) S hn ha hb m1 m2 B2
      refine ⟨t, x', z', g, B', ?_⟩
      unfold tGrouped
      generalize sRet (evPr gTup [.e (evCall self [.late 0, .e (evSl 1), .e (evSl 4)]), .e (evCall self [.late 0, .e (evPr gAdd [.late 4, .e (evK (.int (1)))]), .e (evSl 2)])]) = F at f ⊢
      by_cases w0 : r1 = 0
      · have c0 : decide (r1 = 0) = true := decide_eq_true w0
        have c1 : decide (r1 = 1) = false := decide_eq_false (by omega)
        rw [if_pos w0] at m3
        subst m3
        simp (config := { decide := false }) only [k1_ok, k1_ex, k1_no, ret_r, asF_r, asE_r, asI_r, asL_t, as_nil, as_e, as_l, isSet_r, isSet_v, isSet_o, fdR_s, fd_nil, fd_r, fd_l, fdL_v, fdL_o, prC_s, prB_s, prA_r, pr_r, gd_t, sl_r, slK_v, slK_o, k_r, tb_r, tbA_r, tC_s, tB_s, tA_r, t_r, noA_r, not_r, anA_t, anA_f, and_r, orA_t, orA_f, or_r, ifA_t, ifA_f, if_r, anV_t, anV_f, anU_r, andV_r, orV_t, orV_f, orU_r, orV_r, ntV_s, ntU_r, notV_r, tru_b, tru_i, tru_n, tru_t, tru_l, tru_f, free_r, free_u, free_v, free_o, asgK_t, asg_r, asgM_f, asgM_l, asgM_t, acK_s, ac_r, an_r, atL_t, atK_s, at_r, sq_t, sq_l, sq_f, nxK_s, setK_ok, setK_ex, set_r, seq_r, seqK_nx, seqK_rt, seqK_ro, seqK_bk, seqK_ct, seqK_ex, ifs_r, ifK_t, ifK_f, nx_r, bk_r, ct_r, rets_r, retK_ok, retK_ex, rs_r, rsK_v, rsK_o, retN_r, expr_r, exK_ok, exK_ex, crK_s, crL_ok, crL_ex, cr_r, nod_n, nod_1, call_r, ckA_r, callK_r, agR_s, ag_nil, ag_r, ag_l, agL_v, agL_o, ol_nil, ol_r, ol_l, olK_v, olK_o, bk_nil, bkr, bkl, bkK_v, bkK_o, si_r, siA_ok, siA_ex, siE_t, siB_ok, siC_s, siD_s, isOwn_r, isOwn_o, dfA_t, df_r, dfB_nx, dfB_rt, dfB_ex, ba_v, ba_o, ba_n, nm_n, nm_v, nm_o, p_add, p_sub, p_mul, p_mod, p_fdiv, p_neg, p_int, p_intB, p_cmp, p_ixL, p_ixT, p_ixF, p_lenL, p_lenT, p_lenF, p_listT, p_listL, p_tupleL, p_tupleT, List.getElem?_cons_zero, List.getElem?_cons_succ, List.getElem?_nil, List.set_cons_zero, List.set_cons_succ, List.length_cons, List.length_nil, Option.map_some, Option.map_none, List.cons_append, List.nil_append, List.append_nil, Bool.and_true, Bool.true_and, Bool.or_true, Bool.true_or, Bool.and_false, Bool.false_and, Bool.or_false, Bool.false_or, Bool.not_true, Bool.not_false, decide_true, decide_false, List.replicate, eqI, e1, id, blt01, blt12, Nat.beq, Nat.reduceAdd, f1, f2, if_true, ite_true, c0, c1]
        rw [f]; rfl
      · have c0 : decide (r1 = 0) = false := decide_eq_false w0
        rw [if_neg w0] at m3
        by_cases w1 : r1 = 1
        · have c1 : decide (r1 = 1) = true := decide_eq_true w1
          rw [if_pos w1] at m3
          subst m3
          simp (config := { decide := false }) only [k1_ok, k1_ex, k1_no, ret_r, asF_r, asE_r, asI_r, asL_t, as_nil, as_e, as_l, isSet_r, isSet_v, isSet_o, fdR_s, fd_nil, fd_r, fd_l, fdL_v, fdL_o, prC_s, prB_s, prA_r, pr_r, gd_t, sl_r, slK_v, slK_o, k_r, tb_r, tbA_r, tC_s, tB_s, tA_r, t_r, noA_r, not_r, anA_t, anA_f, and_r, orA_t, orA_f, or_r, ifA_t, ifA_f, if_r, anV_t, anV_f, anU_r, andV_r, orV_t, orV_f, orU_r, orV_r, ntV_s, ntU_r, notV_r, tru_b, tru_i, tru_n, tru_t, tru_l, tru_f, free_r, free_u, free_v, free_o, asgK_t, asg_r, asgM_f, asgM_l, asgM_t, acK_s, ac_r, an_r, atL_t, atK_s, at_r, sq_t, sq_l, sq_f, nxK_s, setK_ok, setK_ex, set_r, seq_r, seqK_nx, seqK_rt, seqK_ro, seqK_bk, seqK_ct, seqK_ex, ifs_r, ifK_t, ifK_f, nx_r, bk_r, ct_r, rets_r, retK_ok, retK_ex, rs_r, rsK_v, rsK_o, retN_r, expr_r, exK_ok, exK_ex, crK_s, crL_ok, crL_ex, cr_r, nod_n, nod_1, call_r, ckA_r, callK_r, agR_s, ag_nil, ag_r, ag_l, agL_v, agL_o, ol_nil, ol_r, ol_l, olK_v, olK_o, bk_nil, bkr, bkl, bkK_v, bkK_o, si_r, siA_ok, siA_ex, siE_t, siB_ok, siC_s, siD_s, isOwn_r, isOwn_o, dfA_t, df_r, dfB_nx, dfB_rt, dfB_ex, ba_v, ba_o, ba_n, nm_n, nm_v, nm_o, p_add, p_sub, p_mul, p_mod, p_fdiv, p_neg, p_int, p_intB, p_cmp, p_ixL, p_ixT, p_ixF, p_lenL, p_lenT, p_lenF, p_listT, p_listL, p_tupleL, p_tupleT, List.getElem?_cons_zero, List.getElem?_cons_succ, List.getElem?_nil, List.set_cons_zero, List.set_cons_succ, List.length_cons, List.length_nil, Option.map_some, Option.map_none, List.cons_append, List.nil_append, List.append_nil, Bool.and_true, Bool.true_and, Bool.or_true, Bool.true_or, Bool.and_false, Bool.false_and, Bool.or_false, Bool.false_or, Bool.not_true, Bool.not_false, decide_true, decide_false, List.replicate, eqI, e1, id, blt01, blt12, Nat.beq, Nat.reduceAdd, f1, f2, if_true, ite_true, c0, c1]
          rw [f]; rfl
        · have c1 : decide (r1 = 1) = false := decide_eq_false w1
          rw [if_neg w1] at m3
          subst m3
          simp (config := { decide := false }) only [k1_ok, k1_ex, k1_no, ret_r, asF_r, asE_r, asI_r, asL_t, as_nil, as_e, as_l, isSet_r, isSet_v, isSet_o, fdR_s, fd_nil, fd_r, fd_l, fdL_v, fdL_o, prC_s, prB_s, prA_r, pr_r, gd_t, sl_r, slK_v, slK_o, k_r, tb_r, tbA_r, tC_s, tB_s, tA_r, t_r, noA_r, not_r, anA_t, anA_f, and_r, orA_t, orA_f, or_r, ifA_t, ifA_f, if_r, anV_t, anV_f, anU_r, andV_r, orV_t, orV_f, orU_r, orV_r, ntV_s, ntU_r, notV_r, tru_b, tru_i, tru_n, tru_t, tru_l, tru_f, free_r, free_u, free_v, free_o, asgK_t, asg_r, asgM_f, asgM_l, asgM_t, acK_s, ac_r, an_r, atL_t, atK_s, at_r, sq_t, sq_l, sq_f, nxK_s, setK_ok, setK_ex, set_r, seq_r, seqK_nx, seqK_rt, seqK_ro, seqK_bk, seqK_ct, seqK_ex, ifs_r, ifK_t, ifK_f, nx_r, bk_r, ct_r, rets_r, retK_ok, retK_ex, rs_r, rsK_v, rsK_o, retN_r, expr_r, exK_ok, exK_ex, crK_s, crL_ok, crL_ex, cr_r, nod_n, nod_1, call_r, ckA_r, callK_r, agR_s, ag_nil, ag_r, ag_l, agL_v, agL_o, ol_nil, ol_r, ol_l, olK_v, olK_o, bk_nil, bkr, bkl, bkK_v, bkK_o, si_r, siA_ok, siA_ex, siE_t, siB_ok, siC_s, siD_s, isOwn_r, isOwn_o, dfA_t, df_r, dfB_nx, dfB_rt, dfB_ex, ba_v, ba_o, ba_n, nm_n, nm_v, nm_o, p_add, p_sub, p_mul, p_mod, p_fdiv, p_neg, p_int, p_intB, p_cmp, p_ixL, p_ixT, p_ixF, p_lenL, p_lenT, p_lenF, p_listT, p_listL, p_tupleL, p_tupleT, List.getElem?_cons_zero, List.getElem?_cons_succ, List.getElem?_nil, List.set_cons_zero, List.set_cons_succ, List.length_cons, List.length_nil, Option.map_some, Option.map_none, List.cons_append, List.nil_append, List.append_nil, Bool.and_true, Bool.true_and, Bool.or_true, Bool.true_or, Bool.and_false, Bool.false_and, Bool.or_false, Bool.false_or, Bool.not_true, Bool.not_false, decide_true, decide_false, List.replicate, eqI, e1, id, blt01, blt12, Nat.beq, Nat.reduceAdd, f1, f2, if_true, ite_true, c0, c1]
          rw [f]; rfl
    by_cases w0 : r1 = 0
    · exact fin (b - 1) (by omega) (by omega) (by rw [if_pos w0])
    · by_cases w1 : r1 = 1
      · exact fin a (by omega) (by omega) (by rw [if_neg w0, if_pos w1])
      · exact fin (a + r2) (by omega) (by omega) (by rw [if_neg w0, if_neg w1])

/-! the ends of a grouping -/
def tEnds : EvS :=
  sSeq (sPar 1 2 (evSl 0) (evSl 0))
  (sSeq (sWhile (evT (.e (evPr (gIsi [.tuple]) [.late 1])))
    (sSet (asgSl 1) (evPr gIx [.late 1, .e (evK (.int (0)))])) FUEL)
  (sSeq (sWhile (evT (.e (evPr (gIsi [.tuple]) [.late 2])))
    (sSet (asgSl 2) (evPr gIx [.late 2, .e (evK (.int (1)))])) FUEL)
  (sRet (evPr gTup [.e (evSl 1), .e (evSl 2)]))))
theorem isiTT {ds : List D} : gIsi [.tuple] [.tup ds] = some ⟨.bl true, false⟩ := rfl
theorem isiTI {i : Int} : gIsi [.tuple] [.int i] = some ⟨.bl false, false⟩ := rfl
theorem par_r {i j : Nat} {f g : Ev R} {ρ ρ1 ρ2 ρ3 : Sls} {rs : List (Nat ⊕ D)} {c d : D} (h : evAs [.e f, .e g] ρ = some (.ok rs ρ1)) (h1 : finD ρ1 rs = some [c, d]) (h2 : asgSl i ⟨c, false⟩ ρ1 = some ρ2) (h3 : asgSl j ⟨d, false⟩ ρ2 = some ρ3) : sPar i j f g ρ = some (.nx ρ3) := by
  unfold sPar
  simp only [h, h1, h2, h3, Option.map_some]
theorem wh_f {t : Ev Bool} {f : EvS} {ρ ρ' : Sls} {n : Nat} (h : t ρ = some (.ok false ρ')) : sWhile t f (n + 1) ρ = some (.nx ρ') := by
  unfold sWhile
  simp only [h]
theorem wh_t {t : Ev Bool} {f : EvS} {ρ ρ' ρ2 : Sls} {n : Nat} (h : t ρ = some (.ok true ρ')) (h2 : f ρ' = some (.nx ρ2)) : sWhile t f (n + 1) ρ = sWhile t f n ρ2 := by
  conv => lhs; unfold sWhile
  simp only [h, h2]
def Tr.fst : Tr → Int
  | .leaf i => i
  | .node l _ => l.fst
def Tr.lst : Tr → Int
  | .leaf i => i
  | .node _ r => r.lst
def Tr.dep : Tr → Nat
  | .leaf _ => 0
  | .node l r => max l.dep r.dep + 1
theorem Grp.ends : ∀ {t : Tr} {a b : Int}, Grp a b t → t.fst = a ∧ t.lst = b ∧ (t.dep : Int) ≤ b - a
  | .leaf i, a, b, h => ⟨h.1, h.1.trans h.2, by simp only [Tr.dep]; have := h.2; omega⟩
  | .node l r, a, b, ⟨m, h1, h2⟩ => by
    obtain ⟨p1, p2, p3⟩ := h1.ends
    obtain ⟨q1, q2, q3⟩ := h2.ends
    have := h1.le
    have := h2.le
    exact ⟨p1, q2, by simp only [Tr.dep]; omega⟩
theorem ends_l {s0 s2 : Slot} : ∀ (t : Tr) (n : Nat), t.dep < n → sWhile (evT (.e (evPr (gIsi [.tuple]) [.late 1]))) (sSet (asgSl 1) (evPr gIx [.late 1, .e (evK (.int (0)))])) n [s0, .v t.d, s2] = some (.nx [s0, .v (.int t.fst), s2])
  | .leaf i, n + 1, _ => wh_f (by simp only [Tr.d, Tr.fst]; simp (config := { decide := false }) only [k1_ok, k1_ex, k1_no, ret_r, asF_r, asE_r, asI_r, asL_t, as_nil, as_e, as_l, isSet_r, isSet_v, isSet_o, fdR_s, fd_nil, fd_r, fd_l, fdL_v, fdL_o, prC_s, prB_s, prA_r, pr_r, gd_t, sl_r, slK_v, slK_o, k_r, tb_r, tbA_r, tC_s, tB_s, tA_r, t_r, noA_r, not_r, anA_t, anA_f, and_r, orA_t, orA_f, or_r, ifA_t, ifA_f, if_r, anV_t, anV_f, anU_r, andV_r, orV_t, orV_f, orU_r, orV_r, ntV_s, ntU_r, notV_r, tru_b, tru_i, tru_n, tru_t, tru_l, tru_f, free_r, free_u, free_v, free_o, asgK_t, asg_r, asgM_f, asgM_l, asgM_t, acK_s, ac_r, an_r, atL_t, atK_s, at_r, sq_t, sq_l, sq_f, nxK_s, setK_ok, setK_ex, set_r, seq_r, seqK_nx, seqK_rt, seqK_ro, seqK_bk, seqK_ct, seqK_ex, ifs_r, ifK_t, ifK_f, nx_r, bk_r, ct_r, rets_r, retK_ok, retK_ex, rs_r, rsK_v, rsK_o, retN_r, expr_r, exK_ok, exK_ex, crK_s, crL_ok, crL_ex, cr_r, nod_n, nod_1, call_r, ckA_r, callK_r, agR_s, ag_nil, ag_r, ag_l, agL_v, agL_o, ol_nil, ol_r, ol_l, olK_v, olK_o, bk_nil, bkr, bkl, bkK_v, bkK_o, si_r, siA_ok, siA_ex, siE_t, siB_ok, siC_s, siD_s, isOwn_r, isOwn_o, dfA_t, df_r, dfB_nx, dfB_rt, dfB_ex, ba_v, ba_o, ba_n, nm_n, nm_v, nm_o, p_add, p_sub, p_mul, p_mod, p_fdiv, p_neg, p_int, p_intB, p_cmp, p_ixL, p_ixT, p_ixF, p_lenL, p_lenT, p_lenF, p_listT, p_listL, p_tupleL, p_tupleT, List.getElem?_cons_zero, List.getElem?_cons_succ, List.getElem?_nil, List.set_cons_zero, List.set_cons_succ, List.length_cons, List.length_nil, Option.map_some, Option.map_none, List.cons_append, List.nil_append, List.append_nil, Bool.and_true, Bool.true_and, Bool.or_true, Bool.true_or, Bool.and_false, Bool.false_and, Bool.or_false, Bool.false_or, Bool.not_true, Bool.not_false, decide_true, decide_false, isiTI])
  | .node l r, n + 1, h => by
    rw [wh_t (ρ' := [s0, .v (Tr.node l r).d, s2]) (ρ2 := [s0, .v l.d, s2]) (by simp only [Tr.d]; simp (config := { decide := false }) only [k1_ok, k1_ex, k1_no, ret_r, asF_r, asE_r, asI_r, asL_t, as_nil, as_e, as_l, isSet_r, isSet_v, isSet_o, fdR_s, fd_nil, fd_r, fd_l, fdL_v, fdL_o, prC_s, prB_s, prA_r, pr_r, gd_t, sl_r, slK_v, slK_o, k_r, tb_r, tbA_r, tC_s, tB_s, tA_r, t_r, noA_r, not_r, anA_t, anA_f, and_r, orA_t, orA_f, or_r, ifA_t, ifA_f, if_r, anV_t, anV_f, anU_r, andV_r, orV_t, orV_f, orU_r, orV_r, ntV_s, ntU_r, notV_r, tru_b, tru_i, tru_n, tru_t, tru_l, tru_f, free_r, free_u, free_v, free_o, asgK_t, asg_r, asgM_f, asgM_l, asgM_t, acK_s, ac_r, an_r, atL_t, atK_s, at_r, sq_t, sq_l, sq_f, nxK_s, setK_ok, setK_ex, set_r, seq_r, seqK_nx, seqK_rt, seqK_ro, seqK_bk, seqK_ct, seqK_ex, ifs_r, ifK_t, ifK_f, nx_r, bk_r, ct_r, rets_r, retK_ok, retK_ex, rs_r, rsK_v, rsK_o, retN_r, expr_r, exK_ok, exK_ex, crK_s, crL_ok, crL_ex, cr_r, nod_n, nod_1, call_r, ckA_r, callK_r, agR_s, ag_nil, ag_r, ag_l, agL_v, agL_o, ol_nil, ol_r, ol_l, olK_v, olK_o, bk_nil, bkr, bkl, bkK_v, bkK_o, si_r, siA_ok, siA_ex, siE_t, siB_ok, siC_s, siD_s, isOwn_r, isOwn_o, dfA_t, df_r, dfB_nx, dfB_rt, dfB_ex, ba_v, ba_o, ba_n, nm_n, nm_v, nm_o, p_add, p_sub, p_mul, p_mod, p_fdiv, p_neg, p_int, p_intB, p_cmp, p_ixL, p_ixT, p_ixF, p_lenL, p_lenT, p_lenF, p_listT, p_listL, p_tupleL, p_tupleT, List.getElem?_cons_zero, List.getElem?_cons_succ, List.getElem?_nil, List.set_cons_zero, List.set_cons_succ, List.length_cons, List.length_nil, Option.map_some, Option.map_none, List.cons_append, List.nil_append, List.append_nil, Bool.and_true, Bool.true_and, Bool.or_true, Bool.true_or, Bool.and_false, Bool.false_and, Bool.or_false, Bool.false_or, Bool.not_true, Bool.not_false, decide_true, decide_false, isiTT]) (by simp only [Tr.d]; simp (config := { decide := false }) only [k1_ok, k1_ex, k1_no, ret_r, asF_r, asE_r, asI_r, asL_t, as_nil, as_e, as_l, isSet_r, isSet_v, isSet_o, fdR_s, fd_nil, fd_r, fd_l, fdL_v, fdL_o, prC_s, prB_s, prA_r, pr_r, gd_t, sl_r, slK_v, slK_o, k_r, tb_r, tbA_r, tC_s, tB_s, tA_r, t_r, noA_r, not_r, anA_t, anA_f, and_r, orA_t, orA_f, or_r, ifA_t, ifA_f, if_r, anV_t, anV_f, anU_r, andV_r, orV_t, orV_f, orU_r, orV_r, ntV_s, ntU_r, notV_r, tru_b, tru_i, tru_n, tru_t, tru_l, tru_f, free_r, free_u, free_v, free_o, asgK_t, asg_r, asgM_f, asgM_l, asgM_t, acK_s, ac_r, an_r, atL_t, atK_s, at_r, sq_t, sq_l, sq_f, nxK_s, setK_ok, setK_ex, set_r, seq_r, seqK_nx, seqK_rt, seqK_ro, seqK_bk, seqK_ct, seqK_ex, ifs_r, ifK_t, ifK_f, nx_r, bk_r, ct_r, rets_r, retK_ok, retK_ex, rs_r, rsK_v, rsK_o, retN_r, expr_r, exK_ok, exK_ex, crK_s, crL_ok, crL_ex, cr_r, nod_n, nod_1, call_r, ckA_r, callK_r, agR_s, ag_nil, ag_r, ag_l, agL_v, agL_o, ol_nil, ol_r, ol_l, olK_v, olK_o, bk_nil, bkr, bkl, bkK_v, bkK_o, si_r, siA_ok, siA_ex, siE_t, siB_ok, siC_s, siD_s, isOwn_r, isOwn_o, dfA_t, df_r, dfB_nx, dfB_rt, dfB_ex, ba_v, ba_o, ba_n, nm_n, nm_v, nm_o, p_add, p_sub, p_mul, p_mod, p_fdiv, p_neg, p_int, p_intB, p_cmp, p_ixL, p_ixT, p_ixF, p_lenL, p_lenT, p_lenF, p_listT, p_listL, p_tupleL, p_tupleT, List.getElem?_cons_zero, List.getElem?_cons_succ, List.getElem?_nil, List.set_cons_zero, List.set_cons_succ, List.length_cons, List.length_nil, Option.map_some, Option.map_none, List.cons_append, List.nil_append, List.append_nil, Bool.and_true, Bool.true_and, Bool.or_true, Bool.true_or, Bool.and_false, Bool.false_and, Bool.or_false, Bool.false_or, Bool.not_true, Bool.not_false, decide_true, decide_false, at0])]
    exact ends_l l n (by simp only [Tr.dep] at h; omega)
theorem ends_r {s0 s1 : Slot} : ∀ (t : Tr) (n : Nat), t.dep < n → sWhile (evT (.e (evPr (gIsi [.tuple]) [.late 2]))) (sSet (asgSl 2) (evPr gIx [.late 2, .e (evK (.int (1)))])) n [s0, s1, .v t.d] = some (.nx [s0, s1, .v (.int t.lst)])
  | .leaf i, n + 1, _ => wh_f (by simp only [Tr.d, Tr.lst]; simp (config := { decide := false }) only [k1_ok, k1_ex, k1_no, ret_r, asF_r, asE_r, asI_r, asL_t, as_nil, as_e, as_l, isSet_r, isSet_v, isSet_o, fdR_s, fd_nil, fd_r, fd_l, fdL_v, fdL_o, prC_s, prB_s, prA_r, pr_r, gd_t, sl_r, slK_v, slK_o, k_r, tb_r, tbA_r, tC_s, tB_s, tA_r, t_r, noA_r, not_r, anA_t, anA_f, and_r, orA_t, orA_f, or_r, ifA_t, ifA_f, if_r, anV_t, anV_f, anU_r, andV_r, orV_t, orV_f, orU_r, orV_r, ntV_s, ntU_r, notV_r, tru_b, tru_i, tru_n, tru_t, tru_l, tru_f, free_r, free_u, free_v, free_o, asgK_t, asg_r, asgM_f, asgM_l, asgM_t, acK_s, ac_r, an_r, atL_t, atK_s, at_r, sq_t, sq_l, sq_f, nxK_s, setK_ok, setK_ex, set_r, seq_r, seqK_nx, seqK_rt, seqK_ro, seqK_bk, seqK_ct, seqK_ex, ifs_r, ifK_t, ifK_f, nx_r, bk_r, ct_r, rets_r, retK_ok, retK_ex, rs_r, rsK_v, rsK_o, retN_r, expr_r, exK_ok, exK_ex, crK_s, crL_ok, crL_ex, cr_r, nod_n, nod_1, call_r, ckA_r, callK_r, agR_s, ag_nil, ag_r, ag_l, agL_v, agL_o, ol_nil, ol_r, ol_l, olK_v, olK_o, bk_nil, bkr, bkl, bkK_v, bkK_o, si_r, siA_ok, siA_ex, siE_t, siB_ok, siC_s, siD_s, isOwn_r, isOwn_o, dfA_t, df_r, dfB_nx, dfB_rt, dfB_ex, ba_v, ba_o, ba_n, nm_n, nm_v, nm_o, p_add, p_sub, p_mul, p_mod, p_fdiv, p_neg, p_int, p_intB, p_cmp, p_ixL, p_ixT, p_ixF, p_lenL, p_lenT, p_lenF, p_listT, p_listL, p_tupleL, p_tupleT, List.getElem?_cons_zero, List.getElem?_cons_succ, List.getElem?_nil, List.set_cons_zero, List.set_cons_succ, List.length_cons, List.length_nil, Option.map_some, Option.map_none, List.cons_append, List.nil_append, List.append_nil, Bool.and_true, Bool.true_and, Bool.or_true, Bool.true_or, Bool.and_false, Bool.false_and, Bool.or_false, Bool.false_or, Bool.not_true, Bool.not_false, decide_true, decide_false, isiTI])
  | .node l r, n + 1, h => by
    rw [wh_t (ρ' := [s0, s1, .v (Tr.node l r).d]) (ρ2 := [s0, s1, .v r.d]) (by simp only [Tr.d]; simp (config := { decide := false }) only [k1_ok, k1_ex, k1_no, ret_r, asF_r, asE_r, asI_r, asL_t, as_nil, as_e, as_l, isSet_r, isSet_v, isSet_o, fdR_s, fd_nil, fd_r, fd_l, fdL_v, fdL_o, prC_s, prB_s, prA_r, pr_r, gd_t, sl_r, slK_v, slK_o, k_r, tb_r, tbA_r, tC_s, tB_s, tA_r, t_r, noA_r, not_r, anA_t, anA_f, and_r, orA_t, orA_f, or_r, ifA_t, ifA_f, if_r, anV_t, anV_f, anU_r, andV_r, orV_t, orV_f, orU_r, orV_r, ntV_s, ntU_r, notV_r, tru_b, tru_i, tru_n, tru_t, tru_l, tru_f, free_r, free_u, free_v, free_o, asgK_t, asg_r, asgM_f, asgM_l, asgM_t, acK_s, ac_r, an_r, atL_t, atK_s, at_r, sq_t, sq_l, sq_f, nxK_s, setK_ok, setK_ex, set_r, seq_r, seqK_nx, seqK_rt, seqK_ro, seqK_bk, seqK_ct, seqK_ex, ifs_r, ifK_t, ifK_f, nx_r, bk_r, ct_r, rets_r, retK_ok, retK_ex, rs_r, rsK_v, rsK_o, retN_r, expr_r, exK_ok, exK_ex, crK_s, crL_ok, crL_ex, cr_r, nod_n, nod_1, call_r, ckA_r, callK_r, agR_s, ag_nil, ag_r, ag_l, agL_v, agL_o, ol_nil, ol_r, ol_l, olK_v, olK_o, bk_nil, bkr, bkl, bkK_v, bkK_o, si_r, siA_ok, siA_ex, siE_t, siB_ok, siC_s, siD_s, isOwn_r, isOwn_o, dfA_t, df_r, dfB_nx, dfB_rt, dfB_ex, ba_v, ba_o, ba_n, nm_n, nm_v, nm_o, p_add, p_sub, p_mul, p_mod, p_fdiv, p_neg, p_int, p_intB, p_cmp, p_ixL, p_ixT, p_ixF, p_lenL, p_lenT, p_lenF, p_listT, p_listL, p_tupleL, p_tupleT, List.getElem?_cons_zero, List.getElem?_cons_succ, List.getElem?_nil, List.set_cons_zero, List.set_cons_succ, List.length_cons, List.length_nil, Option.map_some, Option.map_none, List.cons_append, List.nil_append, List.append_nil, Bool.and_true, Bool.true_and, Bool.or_true, Bool.true_or, Bool.and_false, Bool.false_and, Bool.or_false, Bool.false_or, Bool.not_true, Bool.not_false, decide_true, decide_false, isiTT]) (by simp only [Tr.d]; simp (config := { decide := false }) only [k1_ok, k1_ex, k1_no, ret_r, asF_r, asE_r, asI_r, asL_t, as_nil, as_e, as_l, isSet_r, isSet_v, isSet_o, fdR_s, fd_nil, fd_r, fd_l, fdL_v, fdL_o, prC_s, prB_s, prA_r, pr_r, gd_t, sl_r, slK_v, slK_o, k_r, tb_r, tbA_r, tC_s, tB_s, tA_r, t_r, noA_r, not_r, anA_t, anA_f, and_r, orA_t, orA_f, or_r, ifA_t, ifA_f, if_r, anV_t, anV_f, anU_r, andV_r, orV_t, orV_f, orU_r, orV_r, ntV_s, ntU_r, notV_r, tru_b, tru_i, tru_n, tru_t, tru_l, tru_f, free_r, free_u, free_v, free_o, asgK_t, asg_r, asgM_f, asgM_l, asgM_t, acK_s, ac_r, an_r, atL_t, atK_s, at_r, sq_t, sq_l, sq_f, nxK_s, setK_ok, setK_ex, set_r, seq_r, seqK_nx, seqK_rt, seqK_ro, seqK_bk, seqK_ct, seqK_ex, ifs_r, ifK_t, ifK_f, nx_r, bk_r, ct_r, rets_r, retK_ok, retK_ex, rs_r, rsK_v, rsK_o, retN_r, expr_r, exK_ok, exK_ex, crK_s, crL_ok, crL_ex, cr_r, nod_n, nod_1, call_r, ckA_r, callK_r, agR_s, ag_nil, ag_r, ag_l, agL_v, agL_o, ol_nil, ol_r, ol_l, olK_v, olK_o, bk_nil, bkr, bkl, bkK_v, bkK_o, si_r, siA_ok, siA_ex, siE_t, siB_ok, siC_s, siD_s, isOwn_r, isOwn_o, dfA_t, df_r, dfB_nx, dfB_rt, dfB_ex, ba_v, ba_o, ba_n, nm_n, nm_v, nm_o, p_add, p_sub, p_mul, p_mod, p_fdiv, p_neg, p_int, p_intB, p_cmp, p_ixL, p_ixT, p_ixF, p_lenL, p_lenT, p_lenF, p_listT, p_listL, p_tupleL, p_tupleT, List.getElem?_cons_zero, List.getElem?_cons_succ, List.getElem?_nil, List.set_cons_zero, List.set_cons_succ, List.length_cons, List.length_nil, Option.map_some, Option.map_none, List.cons_append, List.nil_append, List.append_nil, Bool.and_true, Bool.true_and, Bool.or_true, Bool.true_or, Bool.and_false, Bool.false_and, Bool.or_false, Bool.false_or, Bool.not_true, Bool.not_false, decide_true, decide_false, at1])]
    exact ends_r r n (by simp only [Tr.dep] at h; omega)
def EndsOk (fe : Ev R) : Prop := ∀ t : Tr, t.dep < 1000 → fe [.v t.d] = some (.ok ⟨.tup [.int t.fst, .int t.lst], false⟩ [.v t.d])
theorem ends_ok : EndsOk (defEv 1 2 tEnds) := by
  intro t h
  have p : sPar 1 2 (evSl 0) (evSl 0) [.v t.d, .unk, .unk] = some (.nx [.v t.d, .v t.d, .v t.d]) := by
    refine par_r (c := t.d) (d := t.d) (rs := [.inr t.d, .inr t.d]) (ρ1 := [.v t.d, .unk, .unk]) (ρ2 := [.v t.d, .v t.d, .unk]) (by simp (config := { decide := false }) only [k1_ok, k1_ex, k1_no, ret_r, asF_r, asE_r, asI_r, asL_t, as_nil, as_e, as_l, isSet_r, isSet_v, isSet_o, fdR_s, fd_nil, fd_r, fd_l, fdL_v, fdL_o, prC_s, prB_s, prA_r, pr_r, gd_t, sl_r, slK_v, slK_o, k_r, tb_r, tbA_r, tC_s, tB_s, tA_r, t_r, noA_r, not_r, anA_t, anA_f, and_r, orA_t, orA_f, or_r, ifA_t, ifA_f, if_r, anV_t, anV_f, anU_r, andV_r, orV_t, orV_f, orU_r, orV_r, ntV_s, ntU_r, notV_r, tru_b, tru_i, tru_n, tru_t, tru_l, tru_f, free_r, free_u, free_v, free_o, asgK_t, asg_r, asgM_f, asgM_l, asgM_t, acK_s, ac_r, an_r, atL_t, atK_s, at_r, sq_t, sq_l, sq_f, nxK_s, setK_ok, setK_ex, set_r, seq_r, seqK_nx, seqK_rt, seqK_ro, seqK_bk, seqK_ct, seqK_ex, ifs_r, ifK_t, ifK_f, nx_r, bk_r, ct_r, rets_r, retK_ok, retK_ex, rs_r, rsK_v, rsK_o, retN_r, expr_r, exK_ok, exK_ex, crK_s, crL_ok, crL_ex, cr_r, nod_n, nod_1, call_r, ckA_r, callK_r, agR_s, ag_nil, ag_r, ag_l, agL_v, agL_o, ol_nil, ol_r, ol_l, olK_v, olK_o, bk_nil, bkr, bkl, bkK_v, bkK_o, si_r, siA_ok, siA_ex, siE_t, siB_ok, siC_s, siD_s, isOwn_r, isOwn_o, dfA_t, df_r, dfB_nx, dfB_rt, dfB_ex, ba_v, ba_o, ba_n, nm_n, nm_v, nm_o, p_add, p_sub, p_mul, p_mod, p_fdiv, p_neg, p_int, p_intB, p_cmp, p_ixL, p_ixT, p_ixF, p_lenL, p_lenT, p_lenF, p_listT, p_listL, p_tupleL, p_tupleT, List.getElem?_cons_zero, List.getElem?_cons_succ, List.getElem?_nil, List.set_cons_zero, List.set_cons_succ, List.length_cons, List.length_nil, Option.map_some, Option.map_none, List.cons_append, List.nil_append, List.append_nil, Bool.and_true, Bool.true_and, Bool.or_true, Bool.true_or, Bool.and_false, Bool.false_and, Bool.or_false, Bool.false_or, Bool.not_true, Bool.not_false, decide_true, decide_false]) (by simp (config := { decide := false }) only [k1_ok, k1_ex, k1_no, ret_r, asF_r, asE_r, asI_r, asL_t, as_nil, as_e, as_l, isSet_r, isSet_v, isSet_o, fdR_s, fd_nil, fd_r, fd_l, fdL_v, fdL_o, prC_s, prB_s, prA_r, pr_r, gd_t, sl_r, slK_v, slK_o, k_r, tb_r, tbA_r, tC_s, tB_s, tA_r, t_r, noA_r, not_r, anA_t, anA_f, and_r, orA_t, orA_f, or_r, ifA_t, ifA_f, if_r, anV_t, anV_f, anU_r, andV_r, orV_t, orV_f, orU_r, orV_r, ntV_s, ntU_r, notV_r, tru_b, tru_i, tru_n, tru_t, tru_l, tru_f, free_r, free_u, free_v, free_o, asgK_t, asg_r, asgM_f, asgM_l, asgM_t, acK_s, ac_r, an_r, atL_t, atK_s, at_r, sq_t, sq_l, sq_f, nxK_s, setK_ok, setK_ex, set_r, seq_r, seqK_nx, seqK_rt, seqK_ro, seqK_bk, seqK_ct, seqK_ex, ifs_r, ifK_t, ifK_f, nx_r, bk_r, ct_r, rets_r, retK_ok, retK_ex, rs_r, rsK_v, rsK_o, retN_r, expr_r, exK_ok, exK_ex, crK_s, crL_ok, crL_ex, cr_r, nod_n, nod_1, call_r, ckA_r, callK_r, agR_s, ag_nil, ag_r, ag_l, agL_v, agL_o, ol_nil, ol_r, ol_l, olK_v, olK_o, bk_nil, bkr, bkl, bkK_v, bkK_o, si_r, siA_ok, siA_ex, siE_t, siB_ok, siC_s, siD_s, isOwn_r, isOwn_o, dfA_t, df_r, dfB_nx, dfB_rt, dfB_ex, ba_v, ba_o, ba_n, nm_n, nm_v, nm_o, p_add, p_sub, p_mul, p_mod, p_fdiv, p_neg, p_int, p_intB, p_cmp, p_ixL, p_ixT, p_ixF, p_lenL, p_lenT, p_lenF, p_listT, p_listL, p_tupleL, p_tupleT, List.getElem?_cons_zero, List.getElem?_cons_succ, List.getElem?_nil, List.set_cons_zero, List.set_cons_succ, List.length_cons, List.length_nil, Option.map_some, Option.map_none, List.cons_append, List.nil_append, List.append_nil, Bool.and_true, Bool.true_and, Bool.or_true, Bool.true_or, Bool.and_false, Bool.false_and, Bool.or_false, Bool.false_or, Bool.not_true, Bool.not_false, decide_true, decide_false]) (by simp (config := { decide := false }) only [k1_ok, k1_ex, k1_no, ret_r, asF_r, asE_r, asI_r, asL_t, as_nil, as_e, as_l, isSet_r, isSet_v, isSet_o, fdR_s, fd_nil, fd_r, fd_l, fdL_v, fdL_o, prC_s, prB_s, prA_r, pr_r, gd_t, sl_r, slK_v, slK_o, k_r, tb_r, tbA_r, tC_s, tB_s, tA_r, t_r, noA_r, not_r, anA_t, anA_f, and_r, orA_t, orA_f, or_r, ifA_t, ifA_f, if_r, anV_t, anV_f, anU_r, andV_r, orV_t, orV_f, orU_r, orV_r, ntV_s, ntU_r, notV_r, tru_b, tru_i, tru_n, tru_t, tru_l, tru_f, free_r, free_u, free_v, free_o, asgK_t, asg_r, asgM_f, asgM_l, asgM_t, acK_s, ac_r, an_r, atL_t, atK_s, at_r, sq_t, sq_l, sq_f, nxK_s, setK_ok, setK_ex, set_r, seq_r, seqK_nx, seqK_rt, seqK_ro, seqK_bk, seqK_ct, seqK_ex, ifs_r, ifK_t, ifK_f, nx_r, bk_r, ct_r, rets_r, retK_ok, retK_ex, rs_r, rsK_v, rsK_o, retN_r, expr_r, exK_ok, exK_ex, crK_s, crL_ok, crL_ex, cr_r, nod_n, nod_1, call_r, ckA_r, callK_r, agR_s, ag_nil, ag_r, ag_l, agL_v, agL_o, ol_nil, ol_r, ol_l, olK_v, olK_o, bk_nil, bkr, bkl, bkK_v, bkK_o, si_r, siA_ok, siA_ex, siE_t, siB_ok, siC_s, siD_s, isOwn_r, isOwn_o, dfA_t, df_r, dfB_nx, dfB_rt, dfB_ex, ba_v, ba_o, ba_n, nm_n, nm_v, nm_o, p_add, p_sub, p_mul, p_mod, p_fdiv, p_neg, p_int, p_intB, p_cmp, p_ixL, p_ixT, p_ixF, p_lenL, p_lenT, p_lenF, p_listT, p_listL, p_tupleL, p_tupleT, List.getElem?_cons_zero, List.getElem?_cons_succ, List.getElem?_nil, List.set_cons_zero, List.set_cons_succ, List.length_cons, List.length_nil, Option.map_some, Option.map_none, List.cons_append, List.nil_append, List.append_nil, Bool.and_true, Bool.true_and, Bool.or_true, Bool.true_or, Bool.and_false, Bool.false_and, Bool.or_false, Bool.false_or, Bool.not_true, Bool.not_false, decide_true, decide_false]) (by simp (config := { decide := false }) only [k1_ok, k1_ex, k1_no, ret_r, asF_r, asE_r, asI_r, asL_t, as_nil, as_e, as_l, isSet_r, isSet_v, isSet_o, fdR_s, fd_nil, fd_r, fd_l, fdL_v, fdL_o, prC_s, prB_s, prA_r, pr_r, gd_t, sl_r, slK_v, slK_o, k_r, tb_r, tbA_r, tC_s, tB_s, tA_r, t_r, noA_r, not_r, anA_t, anA_f, and_r, orA_t, orA_f, or_r, ifA_t, ifA_f, if_r, anV_t, anV_f, anU_r, andV_r, orV_t, orV_f, orU_r, orV_r, ntV_s, ntU_r, notV_r, tru_b, tru_i, tru_n, tru_t, tru_l, tru_f, free_r, free_u, free_v, free_o, asgK_t, asg_r, asgM_f, asgM_l, asgM_t, acK_s, ac_r, an_r, atL_t, atK_s, at_r, sq_t, sq_l, sq_f, nxK_s, setK_ok, setK_ex, set_r, seq_r, seqK_nx, seqK_rt, seqK_ro, seqK_bk, seqK_ct, seqK_ex, ifs_r, ifK_t, ifK_f, nx_r, bk_r, ct_r, rets_r, retK_ok, retK_ex, rs_r, rsK_v, rsK_o, retN_r, expr_r, exK_ok, exK_ex, crK_s, crL_ok, crL_ex, cr_r, nod_n, nod_1, call_r, ckA_r, callK_r, agR_s, ag_nil, ag_r, ag_l, agL_v, agL_o, ol_nil, ol_r, ol_l, olK_v, olK_o, bk_nil, bkr, bkl, bkK_v, bkK_o, si_r, siA_ok, siA_ex, siE_t, siB_ok, siC_s, siD_s, isOwn_r, isOwn_o, dfA_t, df_r, dfB_nx, dfB_rt, dfB_ex, ba_v, ba_o, ba_n, nm_n, nm_v, nm_o, p_add, p_sub, p_mul, p_mod, p_fdiv, p_neg, p_int, p_intB, p_cmp, p_ixL, p_ixT, p_ixF, p_lenL, p_lenT, p_lenF, p_listT, p_listL, p_tupleL, p_tupleT, List.getElem?_cons_zero, List.getElem?_cons_succ, List.getElem?_nil, List.set_cons_zero, List.set_cons_succ, List.length_cons, List.length_nil, Option.map_some, Option.map_none, List.cons_append, List.nil_append, List.append_nil, Bool.and_true, Bool.true_and, Bool.or_true, Bool.true_or, Bool.and_false, Bool.false_and, Bool.or_false, Bool.false_or, Bool.not_true, Bool.not_false, decide_true, decide_false])
  have hl : ([.int t.fst, .int t.lst] : List D).length ≤ LIM := by show 2 ≤ LIM; decide
  have hF : t.dep < FUEL := Nat.lt_of_lt_of_le h (by decide)
  unfold tEnds
  simp (config := { decide := false }) only [k1_ok, k1_ex, k1_no, ret_r, asF_r, asE_r, asI_r, asL_t, as_nil, as_e, as_l, isSet_r, isSet_v, isSet_o, fdR_s, fd_nil, fd_r, fd_l, fdL_v, fdL_o, prC_s, prB_s, prA_r, pr_r, gd_t, sl_r, slK_v, slK_o, k_r, tb_r, tbA_r, tC_s, tB_s, tA_r, t_r, noA_r, not_r, anA_t, anA_f, and_r, orA_t, orA_f, or_r, ifA_t, ifA_f, if_r, anV_t, anV_f, anU_r, andV_r, orV_t, orV_f, orU_r, orV_r, ntV_s, ntU_r, notV_r, tru_b, tru_i, tru_n, tru_t, tru_l, tru_f, free_r, free_u, free_v, free_o, asgK_t, asg_r, asgM_f, asgM_l, asgM_t, acK_s, ac_r, an_r, atL_t, atK_s, at_r, sq_t, sq_l, sq_f, nxK_s, setK_ok, setK_ex, set_r, seq_r, seqK_nx, seqK_rt, seqK_ro, seqK_bk, seqK_ct, seqK_ex, ifs_r, ifK_t, ifK_f, nx_r, bk_r, ct_r, rets_r, retK_ok, retK_ex, rs_r, rsK_v, rsK_o, retN_r, expr_r, exK_ok, exK_ex, crK_s, crL_ok, crL_ex, cr_r, nod_n, nod_1, call_r, ckA_r, callK_r, agR_s, ag_nil, ag_r, ag_l, agL_v, agL_o, ol_nil, ol_r, ol_l, olK_v, olK_o, bk_nil, bkr, bkl, bkK_v, bkK_o, si_r, siA_ok, siA_ex, siE_t, siB_ok, siC_s, siD_s, isOwn_r, isOwn_o, dfA_t, df_r, dfB_nx, dfB_rt, dfB_ex, ba_v, ba_o, ba_n, nm_n, nm_v, nm_o, p_add, p_sub, p_mul, p_mod, p_fdiv, p_neg, p_int, p_intB, p_cmp, p_ixL, p_ixT, p_ixF, p_lenL, p_lenT, p_lenF, p_listT, p_listL, p_tupleL, p_tupleT, List.getElem?_cons_zero, List.getElem?_cons_succ, List.getElem?_nil, List.set_cons_zero, List.set_cons_succ, List.length_cons, List.length_nil, Option.map_some, Option.map_none, List.cons_append, List.nil_append, List.append_nil, Bool.and_true, Bool.true_and, Bool.or_true, Bool.true_or, Bool.and_false, Bool.false_and, Bool.or_false, Bool.false_or, Bool.not_true, Bool.not_false, decide_true, decide_false, List.replicate, Nat.beq, Nat.reduceAdd, p, ends_l t FUEL hF, ends_r t FUEL hF, p_tup hl]

/-! all pairs of a grouping -/
def tPairs (ends self : Ev R) : EvS :=
  sSeq (sIf (evNotT (evT (.e (evPr (gIsi [.tuple]) [.late 0]))))
    (sRet (evPr gLst []))
    (sNx))
  (sSeq (sSet (asgTup 2 (asgCons (asgSl 1) (asgCons (asgSl 2) asgNil))) (evCall ends [.e (evPr gIx [.late 0, .e (evK (.int (0)))])]))
  (sRet (evPr gAdd [.e (evPr gAdd [.e (evCall self [.e (evPr gIx [.late 0, .e (evK (.int (0)))])]), .e (evPr gLst [.e (evPr gTup [.e (evSl 1), .e (evSl 2), .e (evPr gIx [.e (evCall ends [.e (evPr gIx [.late 0, .e (evK (.int (1)))])]), .e (evK (.int (1)))])])])]), .e (evCall self [.e (evPr gIx [.late 0, .e (evK (.int (1)))])])])))
/-- the joins of a grouping, in order: first factor, join, last factor -/
def Tr.joins : Tr → List (Int × Int × Int)
  | .leaf _ => []
  | .node l r => l.joins ++ [(l.fst, l.lst, r.lst)] ++ r.joins
def d3 (p : Int × Int × Int) : D := .tup [.int p.1, .int p.2.1, .int p.2.2]
def PairsOk (fe : Ev R) (n : Nat) : Prop := ∀ t : Tr, t.dep < n → t.dep < 1000 → t.joins.length ≤ 1000 → fe [.v t.d] = some (.ok ⟨.lst (t.joins.map d3), true⟩ [.v t.d])
theorem pairs_ok {ends self : Ev R} {n : Nat} (E : EndsOk ends) (S : PairsOk self n) : PairsOk (defEv 1 2 (tPairs ends self)) (n + 1) := by
  intro t h h2 h3
  cases t with
  | leaf i =>
    have hl : ([] : List D).length ≤ LIM := by show 0 ≤ LIM; decide
    unfold tPairs
    simp only [Tr.d, Tr.joins]
    simp (config := { decide := false }) only [k1_ok, k1_ex, k1_no, ret_r, asF_r, asE_r, asI_r, asL_t, as_nil, as_e, as_l, isSet_r, isSet_v, isSet_o, fdR_s, fd_nil, fd_r, fd_l, fdL_v, fdL_o, prC_s, prB_s, prA_r, pr_r, gd_t, sl_r, slK_v, slK_o, k_r, tb_r, tbA_r, tC_s, tB_s, tA_r, t_r, noA_r, not_r, anA_t, anA_f, and_r, orA_t, orA_f, or_r, ifA_t, ifA_f, if_r, anV_t, anV_f, anU_r, andV_r, orV_t, orV_f, orU_r, orV_r, ntV_s, ntU_r, notV_r, tru_b, tru_i, tru_n, tru_t, tru_l, tru_f, free_r, free_u, free_v, free_o, asgK_t, asg_r, asgM_f, asgM_l, asgM_t, acK_s, ac_r, an_r, atL_t, atK_s, at_r, sq_t, sq_l, sq_f, nxK_s, setK_ok, setK_ex, set_r, seq_r, seqK_nx, seqK_rt, seqK_ro, seqK_bk, seqK_ct, seqK_ex, ifs_r, ifK_t, ifK_f, nx_r, bk_r, ct_r, rets_r, retK_ok, retK_ex, rs_r, rsK_v, rsK_o, retN_r, expr_r, exK_ok, exK_ex, crK_s, crL_ok, crL_ex, cr_r, nod_n, nod_1, call_r, ckA_r, callK_r, agR_s, ag_nil, ag_r, ag_l, agL_v, agL_o, ol_nil, ol_r, ol_l, olK_v, olK_o, bk_nil, bkr, bkl, bkK_v, bkK_o, si_r, siA_ok, siA_ex, siE_t, siB_ok, siC_s, siD_s, isOwn_r, isOwn_o, dfA_t, df_r, dfB_nx, dfB_rt, dfB_ex, ba_v, ba_o, ba_n, nm_n, nm_v, nm_o, p_add, p_sub, p_mul, p_mod, p_fdiv, p_neg, p_int, p_intB, p_cmp, p_ixL, p_ixT, p_ixF, p_lenL, p_lenT, p_lenF, p_listT, p_listL, p_tupleL, p_tupleT, List.getElem?_cons_zero, List.getElem?_cons_succ, List.getElem?_nil, List.set_cons_zero, List.set_cons_succ, List.length_cons, List.length_nil, Option.map_some, Option.map_none, List.cons_append, List.nil_append, List.append_nil, Bool.and_true, Bool.true_and, Bool.or_true, Bool.true_or, Bool.and_false, Bool.false_and, Bool.or_false, Bool.false_or, Bool.not_true, Bool.not_false, decide_true, decide_false, List.replicate, Nat.beq, Nat.reduceAdd, isiTI, p_lst hl]
    rfl
  | node l r =>
    simp only [Tr.dep] at h h2
    simp only [Tr.joins, List.length_append, List.length_cons, List.length_nil] at h3
    have e1 := E l (by omega)
    have e2 := E r (by omega)
    have s1 := S l (by omega) (by omega) (by omega)
    have s2 := S r (by omega) (by omega) (by omega)
    have hl : ([.int l.fst, .int l.lst, .int r.lst] : List D).length ≤ LIM := by show 3 ≤ LIM; decide
    have hl2 : ([D.tup [.int l.fst, .int l.lst, .int r.lst]] : List D).length ≤ LIM := by show 1 ≤ LIM; decide
    have hm : 3000 ≤ LIM := by decide
    have ha : (l.joins.map d3).length + ([D.tup [.int l.fst, .int l.lst, .int r.lst]] : List D).length ≤ LIM := by simp only [List.length_map, List.length_cons, List.length_nil]; omega
    have hb : (l.joins.map d3 ++ [D.tup [.int l.fst, .int l.lst, .int r.lst]]).length + (r.joins.map d3).length ≤ LIM := by simp only [List.length_append, List.length_map, List.length_cons, List.length_nil]; omega
    unfold tPairs
    simp only [Tr.d, Tr.joins]
    simp (config := { decide := false }) only [k1_ok, k1_ex, k1_no, ret_r, asF_r, asE_r, asI_r, asL_t, as_nil, as_e, as_l, isSet_r, isSet_v, isSet_o, fdR_s, fd_nil, fd_r, fd_l, fdL_v, fdL_o, prC_s, prB_s, prA_r, pr_r, gd_t, sl_r, slK_v, slK_o, k_r, tb_r, tbA_r, tC_s, tB_s, tA_r, t_r, noA_r, not_r, anA_t, anA_f, and_r, orA_t, orA_f, or_r, ifA_t, ifA_f, if_r, anV_t, anV_f, anU_r, andV_r, orV_t, orV_f, orU_r, orV_r, ntV_s, ntU_r, notV_r, tru_b, tru_i, tru_n, tru_t, tru_l, tru_f, free_r, free_u, free_v, free_o, asgK_t, asg_r, asgM_f, asgM_l, asgM_t, acK_s, ac_r, an_r, atL_t, atK_s, at_r, sq_t, sq_l, sq_f, nxK_s, setK_ok, setK_ex, set_r, seq_r, seqK_nx, seqK_rt, seqK_ro, seqK_bk, seqK_ct, seqK_ex, ifs_r, ifK_t, ifK_f, nx_r, bk_r, ct_r, rets_r, retK_ok, retK_ex, rs_r, rsK_v, rsK_o, retN_r, expr_r, exK_ok, exK_ex, crK_s, crL_ok, crL_ex, cr_r, nod_n, nod_1, call_r, ckA_r, callK_r, agR_s, ag_nil, ag_r, ag_l, agL_v, agL_o, ol_nil, ol_r, ol_l, olK_v, olK_o, bk_nil, bkr, bkl, bkK_v, bkK_o, si_r, siA_ok, siA_ex, siE_t, siB_ok, siC_s, siD_s, isOwn_r, isOwn_o, dfA_t, df_r, dfB_nx, dfB_rt, dfB_ex, ba_v, ba_o, ba_n, nm_n, nm_v, nm_o, p_add, p_sub, p_mul, p_mod, p_fdiv, p_neg, p_int, p_intB, p_cmp, p_ixL, p_ixT, p_ixF, p_lenL, p_lenT, p_lenF, p_listT, p_listL, p_tupleL, p_tupleT, List.getElem?_cons_zero, List.getElem?_cons_succ, List.getElem?_nil, List.set_cons_zero, List.set_cons_succ, List.length_cons, List.length_nil, Option.map_some, Option.map_none, List.cons_append, List.nil_append, List.append_nil, Bool.and_true, Bool.true_and, Bool.or_true, Bool.true_or, Bool.and_false, Bool.false_and, Bool.or_false, Bool.false_or, Bool.not_true, Bool.not_false, decide_true, decide_false, List.replicate, Nat.beq, Nat.reduceAdd, isiTT, e1, e2, s1, s2, at0, at1, p_lst hl2, p_tup hl, p_addL ha, p_addL hb]
    simp [d3]
end L3
/-! M2: comprehensions that go through known items. -/
namespace L3
open PySem L2
theorem rest_same {ρ' ρ1 : Sls} {own : List Nat} (hn : noOwn ρ1 own = true) (h : wipeS ρ' own = wipeS ρ1 own) : restS ρ' ρ1 own = ρ1 := by
  have hl : ρ'.length = ρ1.length := by rw [← wipeS_len (vs := own), h, wipeS_len]
  refine List.ext_getElem? fun i => ?_
  by_cases hi : i ∈ own
  · have h1 := (noOwn_of hn i hi).1
    cases e : (restS ρ' ρ1 own)[i]? with
    | none =>
      rw [List.getElem?_eq_none_iff, restS_len] at e
      omega
    | some s =>
      rw [restS_mem hi e, List.getD_eq_getElem?_getD, List.getElem?_eq_getElem h1]
      rfl
  · rw [restS_ne hi, ← wipeS_ne (ρ := ρ') hi, h, wipeS_ne hi]
theorem loop_ps {g : TgE} {f : Ev R} {own : List Nat} {w : Sls} : ∀ {ps : List (D × D)} {acc : List D} {ρ : Sls}, wipeS ρ own = w → noOwn ρ own = true → acc.length + ps.length ≤ LIM →
    (∀ p ∈ ps, ∃ ρ2 ρ4 r, g ⟨p.1, false⟩ w = some ρ2 ∧ f ρ2 = some (.ok r ρ4) ∧ r.d = p.2 ∧ noOwn ρ4 own = true ∧ wipeS ρ4 own = w) →
    ∃ ρ', cLoop g evYes f own (ps.map (·.1)) acc ρ = some (acc ++ ps.map (·.2), ρ') ∧ wipeS ρ' own = w ∧ noOwn ρ' own = true
  | [], acc, ρ, hw, hn, _, _ => ⟨ρ, by simp [cLoop], hw, hn⟩
  | p :: ps, acc, ρ, hw, hn, hl, H => by
    obtain ⟨ρ2, ρ4, r, h1, h2, h3, h5, h6⟩ := H p List.mem_cons_self
    simp only [List.length_cons] at hl
    obtain ⟨ρ', e, q1, q2⟩ := loop_ps (ps := ps) (acc := acc ++ [p.2]) (ρ := ρ4) h6 h5 (by simp; omega) fun x hx => H x (List.mem_cons_of_mem _ hx)
    refine ⟨ρ', ?_, q1, q2⟩
    have hb : (noOwn ρ4 own && Nat.blt acc.length LIM) = true := by
      rw [h5, Bool.true_and]
      exact Nat.ble_eq_true_of_le (by omega)
    have y : evYes ρ2 = some (.ok true ρ2) := rfl
    simp only [List.map_cons, cLoop, hw, h1, y, h2, hb, h3, e]
    simp
/-- [f(x) for x in ..], item by item -/
theorem comp_ps {fi : EvI} {g : TgE} {f : Ev R} {own : List Nat} {ps : List (D × D)} {ρ ρ1 : Sls} (hf : fi ρ = some (.ok (ps.map (·.1), none) ρ1)) (hn : noOwn ρ1 own = true) (hl : ps.length ≤ LIM)
    (H : ∀ p ∈ ps, ∃ ρ2 ρ4 r, g ⟨p.1, false⟩ (wipeS ρ1 own) = some ρ2 ∧ f ρ2 = some (.ok r ρ4) ∧ r.d = p.2 ∧ noOwn ρ4 own = true ∧ wipeS ρ4 own = wipeS ρ1 own) :
    evComp fi g evYes f own ρ = some (.ok ⟨.lst (ps.map (·.2)), true⟩ ρ1) := by
  obtain ⟨ρ', e, q1, q2⟩ := loop_ps (acc := []) rfl hn (by simpa using hl) H
  have c : cRun g evYes f own (ps.map (·.1)) ρ1 = some (ps.map (·.2), ρ1) := by
    unfold cRun
    simp only [hn, e, List.nil_append, rest_same hn q1]
  show (fi.bind _) ρ = _
  unfold Ev.bind
  simp only [hf, c]
theorem comp_map {fi : EvI} {g : TgE} {f : Ev R} {own : List Nat} {F : D → D} {items : List D} {ρ ρ1 : Sls} (hf : fi ρ = some (.ok (items, none) ρ1)) (hn : noOwn ρ1 own = true) (hl : items.length ≤ LIM)
    (H : ∀ d ∈ items, ∃ ρ2 ρ4 r, g ⟨d, false⟩ (wipeS ρ1 own) = some ρ2 ∧ f ρ2 = some (.ok r ρ4) ∧ r.d = F d ∧ noOwn ρ4 own = true ∧ wipeS ρ4 own = wipeS ρ1 own) :
    evComp fi g evYes f own ρ = some (.ok ⟨.lst (items.map F), true⟩ ρ1) := by
  have e1 : (items.map fun d => (d, F d)).map (·.1) = items := by simp [Function.comp_def]
  have e2 : (items.map fun d => (d, F d)).map (·.2) = items.map F := by simp [Function.comp_def]
  rw [← e2]
  refine comp_ps (by rw [e1]; exact hf) hn (by rw [List.length_map]; exact hl) fun p hp => ?_
  obtain ⟨d, hd, rfl⟩ := List.mem_map.mp hp
  exact H d hd
theorem seq_e {f : Ev R} {ρ ρ' : Sls} {r : R} {items : List D} (h : f ρ = some (.ok r ρ')) (w : r.d.wk = some items) : evSeq (.e f) ρ = some (.ok (items, none) ρ') := by
  have e : evAs [.e f] ρ = some (.ok [.inr r.d] ρ') := by simp (config := { decide := false }) only [k1_ok, k1_ex, k1_no, ret_r, asF_r, asE_r, asI_r, asL_t, as_nil, as_e, as_l, isSet_r, isSet_v, isSet_o, fdR_s, fd_nil, fd_r, fd_l, fdL_v, fdL_o, prC_s, prB_s, prA_r, pr_r, gd_t, sl_r, slK_v, slK_o, k_r, tb_r, tbA_r, tC_s, tB_s, tA_r, t_r, noA_r, not_r, anA_t, anA_f, and_r, orA_t, orA_f, or_r, ifA_t, ifA_f, if_r, anV_t, anV_f, anU_r, andV_r, orV_t, orV_f, orU_r, orV_r, ntV_s, ntU_r, notV_r, tru_b, tru_i, tru_n, tru_t, tru_l, tru_f, free_r, free_u, free_v, free_o, asgK_t, asg_r, asgM_f, asgM_l, asgM_t, acK_s, ac_r, an_r, atL_t, atK_s, at_r, sq_t, sq_l, sq_f, nxK_s, setK_ok, setK_ex, set_r, seq_r, seqK_nx, seqK_rt, seqK_ro, seqK_bk, seqK_ct, seqK_ex, ifs_r, ifK_t, ifK_f, nx_r, bk_r, ct_r, rets_r, retK_ok, retK_ex, rs_r, rsK_v, rsK_o, retN_r, expr_r, exK_ok, exK_ex, crK_s, crL_ok, crL_ex, cr_r, nod_n, nod_1, call_r, ckA_r, callK_r, agR_s, ag_nil, ag_r, ag_l, agL_v, agL_o, ol_nil, ol_r, ol_l, olK_v, olK_o, bk_nil, bkr, bkl, bkK_v, bkK_o, si_r, siA_ok, siA_ex, siE_t, siB_ok, siC_s, siD_s, isOwn_r, isOwn_o, dfA_t, df_r, dfB_nx, dfB_rt, dfB_ex, ba_v, ba_o, ba_n, nm_n, nm_v, nm_o, p_add, p_sub, p_mul, p_mod, p_fdiv, p_neg, p_int, p_intB, p_cmp, p_ixL, p_ixT, p_ixF, p_lenL, p_lenT, p_lenF, p_listT, p_listL, p_tupleL, p_tupleT, List.getElem?_cons_zero, List.getElem?_cons_succ, List.getElem?_nil, List.set_cons_zero, List.set_cons_succ, List.length_cons, List.length_nil, Option.map_some, Option.map_none, List.cons_append, List.nil_append, List.append_nil, Bool.and_true, Bool.true_and, Bool.or_true, Bool.true_or, Bool.and_false, Bool.false_and, Bool.or_false, Bool.false_or, Bool.not_true, Bool.not_false, decide_true, decide_false, h]
  show ((evAs [.e f]).bind _) ρ = _
  unfold Ev.bind
  simp only [e, w]
theorem seq_l {ρ : Sls} {j : Nat} {d : D} {items : List D} (h : ρ[j]? = some (.v d)) (w : d.wk = some items) : evSeq (.late j) ρ = some (.ok (items, none) ρ) := by
  have e : evAs [.late j] ρ = some (.ok [.inl j] ρ) := by simp (config := { decide := false }) only [k1_ok, k1_ex, k1_no, ret_r, asF_r, asE_r, asI_r, asL_t, as_nil, as_e, as_l, isSet_r, isSet_v, isSet_o, fdR_s, fd_nil, fd_r, fd_l, fdL_v, fdL_o, prC_s, prB_s, prA_r, pr_r, gd_t, sl_r, slK_v, slK_o, k_r, tb_r, tbA_r, tC_s, tB_s, tA_r, t_r, noA_r, not_r, anA_t, anA_f, and_r, orA_t, orA_f, or_r, ifA_t, ifA_f, if_r, anV_t, anV_f, anU_r, andV_r, orV_t, orV_f, orU_r, orV_r, ntV_s, ntU_r, notV_r, tru_b, tru_i, tru_n, tru_t, tru_l, tru_f, free_r, free_u, free_v, free_o, asgK_t, asg_r, asgM_f, asgM_l, asgM_t, acK_s, ac_r, an_r, atL_t, atK_s, at_r, sq_t, sq_l, sq_f, nxK_s, setK_ok, setK_ex, set_r, seq_r, seqK_nx, seqK_rt, seqK_ro, seqK_bk, seqK_ct, seqK_ex, ifs_r, ifK_t, ifK_f, nx_r, bk_r, ct_r, rets_r, retK_ok, retK_ex, rs_r, rsK_v, rsK_o, retN_r, expr_r, exK_ok, exK_ex, crK_s, crL_ok, crL_ex, cr_r, nod_n, nod_1, call_r, ckA_r, callK_r, agR_s, ag_nil, ag_r, ag_l, agL_v, agL_o, ol_nil, ol_r, ol_l, olK_v, olK_o, bk_nil, bkr, bkl, bkK_v, bkK_o, si_r, siA_ok, siA_ex, siE_t, siB_ok, siC_s, siD_s, isOwn_r, isOwn_o, dfA_t, df_r, dfB_nx, dfB_rt, dfB_ex, ba_v, ba_o, ba_n, nm_n, nm_v, nm_o, p_add, p_sub, p_mul, p_mod, p_fdiv, p_neg, p_int, p_intB, p_cmp, p_ixL, p_ixT, p_ixF, p_lenL, p_lenT, p_lenF, p_listT, p_listL, p_tupleL, p_tupleT, List.getElem?_cons_zero, List.getElem?_cons_succ, List.getElem?_nil, List.set_cons_zero, List.set_cons_succ, List.length_cons, List.length_nil, Option.map_some, Option.map_none, List.cons_append, List.nil_append, List.append_nil, Bool.and_true, Bool.true_and, Bool.or_true, Bool.true_or, Bool.and_false, Bool.false_and, Bool.or_false, Bool.false_or, Bool.not_true, Bool.not_false, decide_true, decide_false, h]
  show ((evAs [.late j]).bind _) ρ = _
  unfold Ev.bind
  simp only [e, h, w]
theorem wk_l {ds : List D} : (D.lst ds).wk = some ds := rfl
theorem wk_t {ds : List D} : (D.tup ds).wk = some ds := rfl
theorem wk_f {ds : List D} : (D.fls ds).wk = some ds := rfl
/-! arms, tails -/
def tArms (pairs : Ev R) (n : Int) : EvS :=
  sRet (evPr gTuple [.e (evComp (evSeq (.e (evCall pairs [.e (evSl 0)]))) (asgSl 2) evYes (evPr gIx [.late 2, .e (evK (.int n))]) [1, 2])])
theorem arms_ok {pairs : Ev R} {n : Nat} {k : Int} {F : Int × Int × Int → Int} (P : PairsOk pairs n) (hk : ∀ p, atI [D.int p.1, D.int p.2.1, D.int p.2.2] k = some (.int (F p))) (t : Tr) (h : t.dep < n) (h2 : t.dep < 1000) (h3 : t.joins.length ≤ 1000) :
    defEv 1 2 (tArms pairs k) [.v t.d] = some (.ok ⟨.tup (t.joins.map fun p => .int (F p)), false⟩ [.v t.d]) := by
  have e0 := P t h h2 h3
  have e1 : evCall pairs [.e (evSl 0)] [.v t.d, .unk, .unk] = some (.ok ⟨.lst (t.joins.map d3), true⟩ [.v t.d, .unk, .unk]) := by simp (config := { decide := false }) only [k1_ok, k1_ex, k1_no, ret_r, asF_r, asE_r, asI_r, asL_t, as_nil, as_e, as_l, isSet_r, isSet_v, isSet_o, fdR_s, fd_nil, fd_r, fd_l, fdL_v, fdL_o, prC_s, prB_s, prA_r, pr_r, gd_t, sl_r, slK_v, slK_o, k_r, tb_r, tbA_r, tC_s, tB_s, tA_r, t_r, noA_r, not_r, anA_t, anA_f, and_r, orA_t, orA_f, or_r, ifA_t, ifA_f, if_r, anV_t, anV_f, anU_r, andV_r, orV_t, orV_f, orU_r, orV_r, ntV_s, ntU_r, notV_r, tru_b, tru_i, tru_n, tru_t, tru_l, tru_f, free_r, free_u, free_v, free_o, asgK_t, asg_r, asgM_f, asgM_l, asgM_t, acK_s, ac_r, an_r, atL_t, atK_s, at_r, sq_t, sq_l, sq_f, nxK_s, setK_ok, setK_ex, set_r, seq_r, seqK_nx, seqK_rt, seqK_ro, seqK_bk, seqK_ct, seqK_ex, ifs_r, ifK_t, ifK_f, nx_r, bk_r, ct_r, rets_r, retK_ok, retK_ex, rs_r, rsK_v, rsK_o, retN_r, expr_r, exK_ok, exK_ex, crK_s, crL_ok, crL_ex, cr_r, nod_n, nod_1, call_r, ckA_r, callK_r, agR_s, ag_nil, ag_r, ag_l, agL_v, agL_o, ol_nil, ol_r, ol_l, olK_v, olK_o, bk_nil, bkr, bkl, bkK_v, bkK_o, si_r, siA_ok, siA_ex, siE_t, siB_ok, siC_s, siD_s, isOwn_r, isOwn_o, dfA_t, df_r, dfB_nx, dfB_rt, dfB_ex, ba_v, ba_o, ba_n, nm_n, nm_v, nm_o, p_add, p_sub, p_mul, p_mod, p_fdiv, p_neg, p_int, p_intB, p_cmp, p_ixL, p_ixT, p_ixF, p_lenL, p_lenT, p_lenF, p_listT, p_listL, p_tupleL, p_tupleT, List.getElem?_cons_zero, List.getElem?_cons_succ, List.getElem?_nil, List.set_cons_zero, List.set_cons_succ, List.length_cons, List.length_nil, Option.map_some, Option.map_none, List.cons_append, List.nil_append, List.append_nil, Bool.and_true, Bool.true_and, Bool.or_true, Bool.true_or, Bool.and_false, Bool.false_and, Bool.or_false, Bool.false_or, Bool.not_true, Bool.not_false, decide_true, decide_false, e0]
  have hl : t.joins.length ≤ LIM := Nat.le_trans h3 (by decide)
  have e2 := comp_ps (g := asgSl 2) (f := evPr gIx [.late 2, .e (evK (.int k))]) (own := [1, 2]) (ps := t.joins.map fun p => (d3 p, D.int (F p))) (seq_e e1 (items := (t.joins.map fun p => (d3 p, D.int (F p))).map (·.1)) (by simp [D.wk, D.sq, Function.comp_def])) rfl (by rw [List.length_map]; exact hl) fun p hp => by
    obtain ⟨q, _, rfl⟩ := List.mem_map.mp hp
    refine ⟨[.v t.d, .unk, .v (d3 q)], [.v t.d, .unk, .v (d3 q)], ⟨.int (F q), false⟩, rfl, ?_, rfl, rfl, rfl⟩
    simp only [d3]
    simp (config := { decide := false }) only [k1_ok, k1_ex, k1_no, ret_r, asF_r, asE_r, asI_r, asL_t, as_nil, as_e, as_l, isSet_r, isSet_v, isSet_o, fdR_s, fd_nil, fd_r, fd_l, fdL_v, fdL_o, prC_s, prB_s, prA_r, pr_r, gd_t, sl_r, slK_v, slK_o, k_r, tb_r, tbA_r, tC_s, tB_s, tA_r, t_r, noA_r, not_r, anA_t, anA_f, and_r, orA_t, orA_f, or_r, ifA_t, ifA_f, if_r, anV_t, anV_f, anU_r, andV_r, orV_t, orV_f, orU_r, orV_r, ntV_s, ntU_r, notV_r, tru_b, tru_i, tru_n, tru_t, tru_l, tru_f, free_r, free_u, free_v, free_o, asgK_t, asg_r, asgM_f, asgM_l, asgM_t, acK_s, ac_r, an_r, atL_t, atK_s, at_r, sq_t, sq_l, sq_f, nxK_s, setK_ok, setK_ex, set_r, seq_r, seqK_nx, seqK_rt, seqK_ro, seqK_bk, seqK_ct, seqK_ex, ifs_r, ifK_t, ifK_f, nx_r, bk_r, ct_r, rets_r, retK_ok, retK_ex, rs_r, rsK_v, rsK_o, retN_r, expr_r, exK_ok, exK_ex, crK_s, crL_ok, crL_ex, cr_r, nod_n, nod_1, call_r, ckA_r, callK_r, agR_s, ag_nil, ag_r, ag_l, agL_v, agL_o, ol_nil, ol_r, ol_l, olK_v, olK_o, bk_nil, bkr, bkl, bkK_v, bkK_o, si_r, siA_ok, siA_ex, siE_t, siB_ok, siC_s, siD_s, isOwn_r, isOwn_o, dfA_t, df_r, dfB_nx, dfB_rt, dfB_ex, ba_v, ba_o, ba_n, nm_n, nm_v, nm_o, p_add, p_sub, p_mul, p_mod, p_fdiv, p_neg, p_int, p_intB, p_cmp, p_ixL, p_ixT, p_ixF, p_lenL, p_lenT, p_lenF, p_listT, p_listL, p_tupleL, p_tupleT, List.getElem?_cons_zero, List.getElem?_cons_succ, List.getElem?_nil, List.set_cons_zero, List.set_cons_succ, List.length_cons, List.length_nil, Option.map_some, Option.map_none, List.cons_append, List.nil_append, List.append_nil, Bool.and_true, Bool.true_and, Bool.or_true, Bool.true_or, Bool.and_false, Bool.false_and, Bool.or_false, Bool.false_or, Bool.not_true, Bool.not_false, decide_true, decide_false, hk]
  have e3 : (t.joins.map fun p => (d3 p, D.int (F p))).map (·.2) = t.joins.map fun p => D.int (F p) := by simp [Function.comp_def]
  rw [e3] at e2
  unfold tArms
  simp (config := { decide := false }) only [k1_ok, k1_ex, k1_no, ret_r, asF_r, asE_r, asI_r, asL_t, as_nil, as_e, as_l, isSet_r, isSet_v, isSet_o, fdR_s, fd_nil, fd_r, fd_l, fdL_v, fdL_o, prC_s, prB_s, prA_r, pr_r, gd_t, sl_r, slK_v, slK_o, k_r, tb_r, tbA_r, tC_s, tB_s, tA_r, t_r, noA_r, not_r, anA_t, anA_f, and_r, orA_t, orA_f, or_r, ifA_t, ifA_f, if_r, anV_t, anV_f, anU_r, andV_r, orV_t, orV_f, orU_r, orV_r, ntV_s, ntU_r, notV_r, tru_b, tru_i, tru_n, tru_t, tru_l, tru_f, free_r, free_u, free_v, free_o, asgK_t, asg_r, asgM_f, asgM_l, asgM_t, acK_s, ac_r, an_r, atL_t, atK_s, at_r, sq_t, sq_l, sq_f, nxK_s, setK_ok, setK_ex, set_r, seq_r, seqK_nx, seqK_rt, seqK_ro, seqK_bk, seqK_ct, seqK_ex, ifs_r, ifK_t, ifK_f, nx_r, bk_r, ct_r, rets_r, retK_ok, retK_ex, rs_r, rsK_v, rsK_o, retN_r, expr_r, exK_ok, exK_ex, crK_s, crL_ok, crL_ex, cr_r, nod_n, nod_1, call_r, ckA_r, callK_r, agR_s, ag_nil, ag_r, ag_l, agL_v, agL_o, ol_nil, ol_r, ol_l, olK_v, olK_o, bk_nil, bkr, bkl, bkK_v, bkK_o, si_r, siA_ok, siA_ex, siE_t, siB_ok, siC_s, siD_s, isOwn_r, isOwn_o, dfA_t, df_r, dfB_nx, dfB_rt, dfB_ex, ba_v, ba_o, ba_n, nm_n, nm_v, nm_o, p_add, p_sub, p_mul, p_mod, p_fdiv, p_neg, p_int, p_intB, p_cmp, p_ixL, p_ixT, p_ixF, p_lenL, p_lenT, p_lenF, p_listT, p_listL, p_tupleL, p_tupleT, List.getElem?_cons_zero, List.getElem?_cons_succ, List.getElem?_nil, List.set_cons_zero, List.set_cons_succ, List.length_cons, List.length_nil, Option.map_some, Option.map_none, List.cons_append, List.nil_append, List.append_nil, Bool.and_true, Bool.true_and, Bool.or_true, Bool.true_or, Bool.and_false, Bool.false_and, Bool.or_false, Bool.false_or, Bool.not_true, Bool.not_false, decide_true, decide_false, List.replicate, Nat.beq, Nat.reduceAdd, e2]
end L3

/-! M3: the same with lists; from behind; equal things. -/
namespace L3
open PySem L2
def Tr.soft : Tr → D
  | .leaf i => .int i
  | .node l r => .lst [l.soft, r.soft]
def Tr.isN : Tr → Bool
  | .leaf _ => false
  | .node _ _ => true
def tSoft (self : Ev R) : EvS :=
  sRet (evIf (evT (.e (evPr (gIsi [.list, .tuple]) [.late 0]))) (evComp (evSeq (.late 0)) (asgSl 2) evYes (evCall self [.e (evSl 2)]) [1, 2]) (evSl 0))
def SoftOk (fe : Ev R) (n : Nat) : Prop := ∀ t : Tr, t.dep < n → fe [.v t.d] = some (.ok ⟨t.soft, t.isN⟩ [.v t.d])
theorem isiLTT {ds : List D} : gIsi [.list, .tuple] [.tup ds] = some ⟨.bl true, false⟩ := rfl
theorem isiLTL {ds : List D} : gIsi [.list, .tuple] [.lst ds] = some ⟨.bl true, false⟩ := rfl
theorem isiLTI {i : Int} : gIsi [.list, .tuple] [.int i] = some ⟨.bl false, false⟩ := rfl
theorem soft_ok {self : Ev R} {n : Nat} (S : SoftOk self n) : SoftOk (defEv 1 2 (tSoft self)) (n + 1) := by
  intro t h
  cases t with
  | leaf i =>
    unfold tSoft
    simp only [Tr.d, Tr.soft, Tr.isN]
    simp (config := { decide := false }) only [k1_ok, k1_ex, k1_no, ret_r, asF_r, asE_r, asI_r, asL_t, as_nil, as_e, as_l, isSet_r, isSet_v, isSet_o, fdR_s, fd_nil, fd_r, fd_l, fdL_v, fdL_o, prC_s, prB_s, prA_r, pr_r, gd_t, sl_r, slK_v, slK_o, k_r, tb_r, tbA_r, tC_s, tB_s, tA_r, t_r, noA_r, not_r, anA_t, anA_f, and_r, orA_t, orA_f, or_r, ifA_t, ifA_f, if_r, anV_t, anV_f, anU_r, andV_r, orV_t, orV_f, orU_r, orV_r, ntV_s, ntU_r, notV_r, tru_b, tru_i, tru_n, tru_t, tru_l, tru_f, free_r, free_u, free_v, free_o, asgK_t, asg_r, asgM_f, asgM_l, asgM_t, acK_s, ac_r, an_r, atL_t, atK_s, at_r, sq_t, sq_l, sq_f, nxK_s, setK_ok, setK_ex, set_r, seq_r, seqK_nx, seqK_rt, seqK_ro, seqK_bk, seqK_ct, seqK_ex, ifs_r, ifK_t, ifK_f, nx_r, bk_r, ct_r, rets_r, retK_ok, retK_ex, rs_r, rsK_v, rsK_o, retN_r, expr_r, exK_ok, exK_ex, crK_s, crL_ok, crL_ex, cr_r, nod_n, nod_1, call_r, ckA_r, callK_r, agR_s, ag_nil, ag_r, ag_l, agL_v, agL_o, ol_nil, ol_r, ol_l, olK_v, olK_o, bk_nil, bkr, bkl, bkK_v, bkK_o, si_r, siA_ok, siA_ex, siE_t, siB_ok, siC_s, siD_s, isOwn_r, isOwn_o, dfA_t, df_r, dfB_nx, dfB_rt, dfB_ex, ba_v, ba_o, ba_n, nm_n, nm_v, nm_o, p_add, p_sub, p_mul, p_mod, p_fdiv, p_neg, p_int, p_intB, p_cmp, p_ixL, p_ixT, p_ixF, p_lenL, p_lenT, p_lenF, p_listT, p_listL, p_tupleL, p_tupleT, List.getElem?_cons_zero, List.getElem?_cons_succ, List.getElem?_nil, List.set_cons_zero, List.set_cons_succ, List.length_cons, List.length_nil, Option.map_some, Option.map_none, List.cons_append, List.nil_append, List.append_nil, Bool.and_true, Bool.true_and, Bool.or_true, Bool.true_or, Bool.and_false, Bool.false_and, Bool.or_false, Bool.false_or, Bool.not_true, Bool.not_false, decide_true, decide_false, List.replicate, Nat.beq, Nat.reduceAdd, isiLTI]
  | node l r =>
    simp only [Tr.dep] at h
    have e1 := S l (by omega)
    have e2 := S r (by omega)
    have e := comp_ps (g := asgSl 2) (f := evCall self [.e (evSl 2)]) (own := [1, 2]) (ps := [(l.d, l.soft), (r.d, r.soft)]) (ρ := [.v (.tup [l.d, r.d]), .unk, .unk]) (seq_l (j := 0) (d := .tup [l.d, r.d]) rfl rfl) rfl (by show 2 ≤ LIM; decide) fun p hp => by
      simp only [List.mem_cons, List.not_mem_nil, or_false] at hp
      rcases hp with rfl | rfl
      · exact ⟨[.v (.tup [l.d, r.d]), .unk, .v l.d], [.v (.tup [l.d, r.d]), .unk, .v l.d], ⟨l.soft, l.isN⟩, rfl, by simp (config := { decide := false }) only [k1_ok, k1_ex, k1_no, ret_r, asF_r, asE_r, asI_r, asL_t, as_nil, as_e, as_l, isSet_r, isSet_v, isSet_o, fdR_s, fd_nil, fd_r, fd_l, fdL_v, fdL_o, prC_s, prB_s, prA_r, pr_r, gd_t, sl_r, slK_v, slK_o, k_r, tb_r, tbA_r, tC_s, tB_s, tA_r, t_r, noA_r, not_r, anA_t, anA_f, and_r, orA_t, orA_f, or_r, ifA_t, ifA_f, if_r, anV_t, anV_f, anU_r, andV_r, orV_t, orV_f, orU_r, orV_r, ntV_s, ntU_r, notV_r, tru_b, tru_i, tru_n, tru_t, tru_l, tru_f, free_r, free_u, free_v, free_o, asgK_t, asg_r, asgM_f, asgM_l, asgM_t, acK_s, ac_r, an_r, atL_t, atK_s, at_r, sq_t, sq_l, sq_f, nxK_s, setK_ok, setK_ex, set_r, seq_r, seqK_nx, seqK_rt, seqK_ro, seqK_bk, seqK_ct, seqK_ex, ifs_r, ifK_t, ifK_f, nx_r, bk_r, ct_r, rets_r, retK_ok, retK_ex, rs_r, rsK_v, rsK_o, retN_r, expr_r, exK_ok, exK_ex, crK_s, crL_ok, crL_ex, cr_r, nod_n, nod_1, call_r, ckA_r, callK_r, agR_s, ag_nil, ag_r, ag_l, agL_v, agL_o, ol_nil, ol_r, ol_l, olK_v, olK_o, bk_nil, bkr, bkl, bkK_v, bkK_o, si_r, siA_ok, siA_ex, siE_t, siB_ok, siC_s, siD_s, isOwn_r, isOwn_o, dfA_t, df_r, dfB_nx, dfB_rt, dfB_ex, ba_v, ba_o, ba_n, nm_n, nm_v, nm_o, p_add, p_sub, p_mul, p_mod, p_fdiv, p_neg, p_int, p_intB, p_cmp, p_ixL, p_ixT, p_ixF, p_lenL, p_lenT, p_lenF, p_listT, p_listL, p_tupleL, p_tupleT, List.getElem?_cons_zero, List.getElem?_cons_succ, List.getElem?_nil, List.set_cons_zero, List.set_cons_succ, List.length_cons, List.length_nil, Option.map_some, Option.map_none, List.cons_append, List.nil_append, List.append_nil, Bool.and_true, Bool.true_and, Bool.or_true, Bool.true_or, Bool.and_false, Bool.false_and, Bool.or_false, Bool.false_or, Bool.not_true, Bool.not_false, decide_true, decide_false, e1], rfl, rfl, rfl⟩
      · exact ⟨[.v (.tup [l.d, r.d]), .unk, .v r.d], [.v (.tup [l.d, r.d]), .unk, .v r.d], ⟨r.soft, r.isN⟩, rfl, by simp (config := { decide := false }) only [k1_ok, k1_ex, k1_no, ret_r, asF_r, asE_r, asI_r, asL_t, as_nil, as_e, as_l, isSet_r, isSet_v, isSet_o, fdR_s, fd_nil, fd_r, fd_l, fdL_v, fdL_o, prC_s, prB_s, prA_r, pr_r, gd_t, sl_r, slK_v, slK_o, k_r, tb_r, tbA_r, tC_s, tB_s, tA_r, t_r, noA_r, not_r, anA_t, anA_f, and_r, orA_t, orA_f, or_r, ifA_t, ifA_f, if_r, anV_t, anV_f, anU_r, andV_r, orV_t, orV_f, orU_r, orV_r, ntV_s, ntU_r, notV_r, tru_b, tru_i, tru_n, tru_t, tru_l, tru_f, free_r, free_u, free_v, free_o, asgK_t, asg_r, asgM_f, asgM_l, asgM_t, acK_s, ac_r, an_r, atL_t, atK_s, at_r, sq_t, sq_l, sq_f, nxK_s, setK_ok, setK_ex, set_r, seq_r, seqK_nx, seqK_rt, seqK_ro, seqK_bk, seqK_ct, seqK_ex, ifs_r, ifK_t, ifK_f, nx_r, bk_r, ct_r, rets_r, retK_ok, retK_ex, rs_r, rsK_v, rsK_o, retN_r, expr_r, exK_ok, exK_ex, crK_s, crL_ok, crL_ex, cr_r, nod_n, nod_1, call_r, ckA_r, callK_r, agR_s, ag_nil, ag_r, ag_l, agL_v, agL_o, ol_nil, ol_r, ol_l, olK_v, olK_o, bk_nil, bkr, bkl, bkK_v, bkK_o, si_r, siA_ok, siA_ex, siE_t, siB_ok, siC_s, siD_s, isOwn_r, isOwn_o, dfA_t, df_r, dfB_nx, dfB_rt, dfB_ex, ba_v, ba_o, ba_n, nm_n, nm_v, nm_o, p_add, p_sub, p_mul, p_mod, p_fdiv, p_neg, p_int, p_intB, p_cmp, p_ixL, p_ixT, p_ixF, p_lenL, p_lenT, p_lenF, p_listT, p_listL, p_tupleL, p_tupleT, List.getElem?_cons_zero, List.getElem?_cons_succ, List.getElem?_nil, List.set_cons_zero, List.set_cons_succ, List.length_cons, List.length_nil, Option.map_some, Option.map_none, List.cons_append, List.nil_append, List.append_nil, Bool.and_true, Bool.true_and, Bool.or_true, Bool.true_or, Bool.and_false, Bool.false_and, Bool.or_false, Bool.false_or, Bool.not_true, Bool.not_false, decide_true, decide_false, e2], rfl, rfl, rfl⟩
    unfold tSoft
    simp only [Tr.d, Tr.soft, Tr.isN]
    simp (config := { decide := false }) only [k1_ok, k1_ex, k1_no, ret_r, asF_r, asE_r, asI_r, asL_t, as_nil, as_e, as_l, isSet_r, isSet_v, isSet_o, fdR_s, fd_nil, fd_r, fd_l, fdL_v, fdL_o, prC_s, prB_s, prA_r, pr_r, gd_t, sl_r, slK_v, slK_o, k_r, tb_r, tbA_r, tC_s, tB_s, tA_r, t_r, noA_r, not_r, anA_t, anA_f, and_r, orA_t, orA_f, or_r, ifA_t, ifA_f, if_r, anV_t, anV_f, anU_r, andV_r, orV_t, orV_f, orU_r, orV_r, ntV_s, ntU_r, notV_r, tru_b, tru_i, tru_n, tru_t, tru_l, tru_f, free_r, free_u, free_v, free_o, asgK_t, asg_r, asgM_f, asgM_l, asgM_t, acK_s, ac_r, an_r, atL_t, atK_s, at_r, sq_t, sq_l, sq_f, nxK_s, setK_ok, setK_ex, set_r, seq_r, seqK_nx, seqK_rt, seqK_ro, seqK_bk, seqK_ct, seqK_ex, ifs_r, ifK_t, ifK_f, nx_r, bk_r, ct_r, rets_r, retK_ok, retK_ex, rs_r, rsK_v, rsK_o, retN_r, expr_r, exK_ok, exK_ex, crK_s, crL_ok, crL_ex, cr_r, nod_n, nod_1, call_r, ckA_r, callK_r, agR_s, ag_nil, ag_r, ag_l, agL_v, agL_o, ol_nil, ol_r, ol_l, olK_v, olK_o, bk_nil, bkr, bkl, bkK_v, bkK_o, si_r, siA_ok, siA_ex, siE_t, siB_ok, siC_s, siD_s, isOwn_r, isOwn_o, dfA_t, df_r, dfB_nx, dfB_rt, dfB_ex, ba_v, ba_o, ba_n, nm_n, nm_v, nm_o, p_add, p_sub, p_mul, p_mod, p_fdiv, p_neg, p_int, p_intB, p_cmp, p_ixL, p_ixT, p_ixF, p_lenL, p_lenT, p_lenF, p_listT, p_listL, p_tupleL, p_tupleT, List.getElem?_cons_zero, List.getElem?_cons_succ, List.getElem?_nil, List.set_cons_zero, List.set_cons_succ, List.length_cons, List.length_nil, Option.map_some, Option.map_none, List.cons_append, List.nil_append, List.append_nil, Bool.and_true, Bool.true_and, Bool.or_true, Bool.true_or, Bool.and_false, Bool.false_and, Bool.or_false, Bool.false_or, Bool.not_true, Bool.not_false, decide_true, decide_false, List.replicate, Nat.beq, Nat.reduceAdd, isiLTT, e, List.map_cons, List.map_nil]
/-- numbered anew from behind, n factors -/
def Tr.beh (n : Int) : Tr → Tr
  | .leaf i => .leaf (n + 1 - i)
  | .node l r => .node (r.beh n) (l.beh n)
def tBehind (self : Ev R) : EvS :=
  sSeq (sIf (evNotT (evT (.e (evPr (gIsi [.tuple]) [.late 0]))))
    (sRet (evPr L3.gSub [.e (evPr gAdd [.late 1, .e (evK (.int (1)))]), .late 0]))
    (sNx))
  (sRet (evPr gTup [.e (evCall self [.e (evPr gIx [.late 0, .e (evK (.int (1)))]), .e (evSl 1)]), .e (evCall self [.e (evPr gIx [.late 0, .e (evK (.int (0)))]), .e (evSl 1)])]))
def BehOk (fe : Ev R) (n : Nat) : Prop := ∀ (t : Tr) (s : Int), t.dep < n → fe [.v t.d, .v (.int s)] = some (.ok ⟨(t.beh s).d, false⟩ [.v t.d, .v (.int s)])
theorem beh_ok {self : Ev R} {n : Nat} (S : BehOk self n) : BehOk (defEv 2 0 (tBehind self)) (n + 1) := by
  intro t s h
  cases t with
  | leaf i =>
    unfold tBehind
    simp only [Tr.d, Tr.beh]
    simp (config := { decide := false }) only [k1_ok, k1_ex, k1_no, ret_r, asF_r, asE_r, asI_r, asL_t, as_nil, as_e, as_l, isSet_r, isSet_v, isSet_o, fdR_s, fd_nil, fd_r, fd_l, fdL_v, fdL_o, prC_s, prB_s, prA_r, pr_r, gd_t, sl_r, slK_v, slK_o, k_r, tb_r, tbA_r, tC_s, tB_s, tA_r, t_r, noA_r, not_r, anA_t, anA_f, and_r, orA_t, orA_f, or_r, ifA_t, ifA_f, if_r, anV_t, anV_f, anU_r, andV_r, orV_t, orV_f, orU_r, orV_r, ntV_s, ntU_r, notV_r, tru_b, tru_i, tru_n, tru_t, tru_l, tru_f, free_r, free_u, free_v, free_o, asgK_t, asg_r, asgM_f, asgM_l, asgM_t, acK_s, ac_r, an_r, atL_t, atK_s, at_r, sq_t, sq_l, sq_f, nxK_s, setK_ok, setK_ex, set_r, seq_r, seqK_nx, seqK_rt, seqK_ro, seqK_bk, seqK_ct, seqK_ex, ifs_r, ifK_t, ifK_f, nx_r, bk_r, ct_r, rets_r, retK_ok, retK_ex, rs_r, rsK_v, rsK_o, retN_r, expr_r, exK_ok, exK_ex, crK_s, crL_ok, crL_ex, cr_r, nod_n, nod_1, call_r, ckA_r, callK_r, agR_s, ag_nil, ag_r, ag_l, agL_v, agL_o, ol_nil, ol_r, ol_l, olK_v, olK_o, bk_nil, bkr, bkl, bkK_v, bkK_o, si_r, siA_ok, siA_ex, siE_t, siB_ok, siC_s, siD_s, isOwn_r, isOwn_o, dfA_t, df_r, dfB_nx, dfB_rt, dfB_ex, ba_v, ba_o, ba_n, nm_n, nm_v, nm_o, p_add, p_sub, p_mul, p_mod, p_fdiv, p_neg, p_int, p_intB, p_cmp, p_ixL, p_ixT, p_ixF, p_lenL, p_lenT, p_lenF, p_listT, p_listL, p_tupleL, p_tupleT, List.getElem?_cons_zero, List.getElem?_cons_succ, List.getElem?_nil, List.set_cons_zero, List.set_cons_succ, List.length_cons, List.length_nil, Option.map_some, Option.map_none, List.cons_append, List.nil_append, List.append_nil, Bool.and_true, Bool.true_and, Bool.or_true, Bool.true_or, Bool.and_false, Bool.false_and, Bool.or_false, Bool.false_or, Bool.not_true, Bool.not_false, decide_true, decide_false, List.replicate, Nat.beq, Nat.reduceAdd, isiTI]
  | node l r =>
    simp only [Tr.dep] at h
    have e1 := S l s (by omega)
    have e2 := S r s (by omega)
    have hl : ([(r.beh s).d, (l.beh s).d] : List D).length ≤ LIM := by show 2 ≤ LIM; decide
    unfold tBehind
    simp only [Tr.d, Tr.beh]
    simp (config := { decide := false }) only [k1_ok, k1_ex, k1_no, ret_r, asF_r, asE_r, asI_r, asL_t, as_nil, as_e, as_l, isSet_r, isSet_v, isSet_o, fdR_s, fd_nil, fd_r, fd_l, fdL_v, fdL_o, prC_s, prB_s, prA_r, pr_r, gd_t, sl_r, slK_v, slK_o, k_r, tb_r, tbA_r, tC_s, tB_s, tA_r, t_r, noA_r, not_r, anA_t, anA_f, and_r, orA_t, orA_f, or_r, ifA_t, ifA_f, if_r, anV_t, anV_f, anU_r, andV_r, orV_t, orV_f, orU_r, orV_r, ntV_s, ntU_r, notV_r, tru_b, tru_i, tru_n, tru_t, tru_l, tru_f, free_r, free_u, free_v, free_o, asgK_t, asg_r, asgM_f, asgM_l, asgM_t, acK_s, ac_r, an_r, atL_t, atK_s, at_r, sq_t, sq_l, sq_f, nxK_s, setK_ok, setK_ex, set_r, seq_r, seqK_nx, seqK_rt, seqK_ro, seqK_bk, seqK_ct, seqK_ex, ifs_r, ifK_t, ifK_f, nx_r, bk_r, ct_r, rets_r, retK_ok, retK_ex, rs_r, rsK_v, rsK_o, retN_r, expr_r, exK_ok, exK_ex, crK_s, crL_ok, crL_ex, cr_r, nod_n, nod_1, call_r, ckA_r, callK_r, agR_s, ag_nil, ag_r, ag_l, agL_v, agL_o, ol_nil, ol_r, ol_l, olK_v, olK_o, bk_nil, bkr, bkl, bkK_v, bkK_o, si_r, siA_ok, siA_ex, siE_t, siB_ok, siC_s, siD_s, isOwn_r, isOwn_o, dfA_t, df_r, dfB_nx, dfB_rt, dfB_ex, ba_v, ba_o, ba_n, nm_n, nm_v, nm_o, p_add, p_sub, p_mul, p_mod, p_fdiv, p_neg, p_int, p_intB, p_cmp, p_ixL, p_ixT, p_ixF, p_lenL, p_lenT, p_lenF, p_listT, p_listL, p_tupleL, p_tupleT, List.getElem?_cons_zero, List.getElem?_cons_succ, List.getElem?_nil, List.set_cons_zero, List.set_cons_succ, List.length_cons, List.length_nil, Option.map_some, Option.map_none, List.cons_append, List.nil_append, List.append_nil, Bool.and_true, Bool.true_and, Bool.or_true, Bool.true_or, Bool.and_false, Bool.false_and, Bool.or_false, Bool.false_or, Bool.not_true, Bool.not_false, decide_true, decide_false, List.replicate, Nat.beq, Nat.reduceAdd, isiTT, e1, e2, at0, at1, p_tup hl]
end L3

/-! M4: equal things are the same. -/
namespace L3
open PySem L2
def tSame (self : Ev R) : EvS :=
  sSeq (sIf (evT (.e (evPr (gIsi [.list, .tuple]) [.late 1])))
    (sSeq (sIf (evOrT (evTB (evPr (gEq not) [.e (evPr (gIsi [.list]) [.late 0]), .e (evPr (gIsi [.list]) [.late 1])])) (evTB (evPr (gEq not) [.e (evPr (gIsi [.tuple]) [.late 0]), .e (evPr (gIsi [.tuple]) [.late 1])])))
      (sRet (evK (.bl false)))
      (sNx))
    (sRet (evAnd (evPr (gEq id) [.e (evPr gLen [.late 0]), .e (evPr gLen [.late 1])]) (evPr gAll [.e (evComp (evItm gZip [.e (evSl 0), .e (evSl 1)]) (asgTup 2 (asgCons (asgSl 3) (asgCons (asgSl 4) asgNil))) evYes (evCall self [.e (evSl 3), .e (evSl 4)]) [2, 3, 4])]))))
    (sNx))
  (sSeq (sIf (evOrT (evTB (evPr (gIsN id) [.late 1, .e (evK (.non))])) (evT (.e (evPr (gIsi [.bool, .str]) [.late 1]))))
    (sRet (evAnd (evPr (gEq id) [.late 0, .late 1]) (evAnd (evPr (gEq id) [.e (evPr (gIsi [.bool]) [.late 0]), .e (evPr (gIsi [.bool]) [.late 1])]) (evPr (gEq id) [.e (evPr (gIsN id) [.late 0, .e (evK (.non))]), .e (evPr (gIsN id) [.late 1, .e (evK (.non))])]))))
    (sNx))
  (sRet (evAnd (evPr (gIsi [.int]) [.late 0]) (evAnd (evNot (evPr (gIsi [.bool]) [.late 0])) (evPr (gEq id) [.late 0, .late 1])))))
inductive Pln : Nat → D → Prop
  | int {n : Nat} (i : Int) : Pln (n + 1) (.int i)
  | bl {n : Nat} (b : Bool) : Pln (n + 1) (.bl b)
  | non {n : Nat} : Pln (n + 1) .non
  | str {n : Nat} (x : Str) : Pln (n + 1) (.str x)
  | tup {n : Nat} {ds : List D} : (∀ d ∈ ds, Pln n d) → ds.length ≤ LIM → Pln (n + 1) (.tup ds)
  | lst {n : Nat} {ds : List D} : (∀ d ∈ ds, Pln n d) → ds.length ≤ LIM → Pln (n + 1) (.lst ds)
def SameOk (fe : Ev R) (n : Nat) : Prop := ∀ d : D, Pln n d → fe [.v d, .v d] = some (.ok ⟨.bl true, false⟩ [.v d, .v d])
theorem eqBs {f : Bool → Bool} {b : Bool} : gEq f [.bl b, .bl b] = some ⟨.bl (f true), false⟩ := by
  cases b <;> rfl
theorem eqNs {f : Bool → Bool} : gEq f [.non, .non] = some ⟨.bl (f true), false⟩ := rfl
theorem eqIs {f : Bool → Bool} {i : Int} : gEq f [.int i, .int i] = some ⟨.bl (f true), false⟩ := by rw [eqI, decide_eq_true rfl]
theorem eqSs {f : Bool → Bool} {x : Str} : gEq f [.str x, .str x] = some ⟨.bl (f true), false⟩ := by
  show gd (Nat.ble (max (D.str x).dep (D.str x).dep) 64) ⟨.bl (f (D.eqB (.str x) (.str x))), false⟩ = _
  have h2 : D.eqB (.str x) (.str x) = true := by
    unfold D.eqB
    exact beq_self_eq_true x
  rw [h2]; rfl
theorem zip_self : ∀ ds : List D, zipD ds ds = ds.map fun d => .tup [d, d]
  | [] => rfl
  | d :: ds => by simp [zipD, zip_self ds]
theorem all_true : ∀ ds : List D, gAll [.lst (ds.map fun _ => .bl true)] = some ⟨.bl true, false⟩ := fun ds => by
  have h : ∀ ds : List D, D.bls (ds.map fun _ => D.bl true) = some (ds.map fun _ => true) := fun ds => by
    induction ds with
    | nil => rfl
    | cons d ds ih => simp [D.bls, ih]
  show (lsBls (.lst (ds.map fun _ => D.bl true))).map _ = _
  have : lsBls (.lst (ds.map fun _ => D.bl true)) = some (ds.map fun _ => true) := h ds
  rw [this]
  simp
theorem itm_r {g : List D → Option (List D)} {as : List SA} {ρ ρ' : Sls} {rs : List (Nat ⊕ D)} {ds items : List D} (h1 : evAs as ρ = some (.ok rs ρ')) (h2 : finD ρ' rs = some ds) (h3 : g ds = some items) : evItm g as ρ = some (.ok (items, none) ρ') := by
  show ((evAs as).bind _) ρ = _
  unfold Ev.bind
  simp only [h1, h2, h3]
theorem same_comp {self : Ev R} {n : Nat} (S : SameOk self n) {d : D} {ds : List D} (hz : gZip [d, d] = some (zipD ds ds)) (H : ∀ x ∈ ds, Pln n x) (hl : ds.length ≤ LIM) :
    evComp (evItm gZip [.e (evSl 0), .e (evSl 1)]) (asgTup 2 (asgCons (asgSl 3) (asgCons (asgSl 4) asgNil))) evYes (evCall self [.e (evSl 3), .e (evSl 4)]) [2, 3, 4] [.v d, .v d, .unk, .unk, .unk] = some (.ok ⟨.lst (ds.map fun _ => .bl true), true⟩ [.v d, .v d, .unk, .unk, .unk]) := by
  have e := comp_ps (fi := evItm gZip [.e (evSl 0), .e (evSl 1)]) (g := asgTup 2 (asgCons (asgSl 3) (asgCons (asgSl 4) asgNil))) (f := evCall self [.e (evSl 3), .e (evSl 4)]) (own := [2, 3, 4]) (ps := ds.map fun x => (.tup [x, x], .bl true)) (ρ := [.v d, .v d, .unk, .unk, .unk]) (ρ1 := [.v d, .v d, .unk, .unk, .unk])
    (itm_r (rs := [.inr d, .inr d]) (ds := [d, d]) (by simp (config := { decide := false }) only [k1_ok, k1_ex, k1_no, ret_r, asF_r, asE_r, asI_r, asL_t, as_nil, as_e, as_l, isSet_r, isSet_v, isSet_o, fdR_s, fd_nil, fd_r, fd_l, fdL_v, fdL_o, prC_s, prB_s, prA_r, pr_r, gd_t, sl_r, slK_v, slK_o, k_r, tb_r, tbA_r, tC_s, tB_s, tA_r, t_r, noA_r, not_r, anA_t, anA_f, and_r, orA_t, orA_f, or_r, ifA_t, ifA_f, if_r, anV_t, anV_f, anU_r, andV_r, orV_t, orV_f, orU_r, orV_r, ntV_s, ntU_r, notV_r, tru_b, tru_i, tru_n, tru_t, tru_l, tru_f, free_r, free_u, free_v, free_o, asgK_t, asg_r, asgM_f, asgM_l, asgM_t, acK_s, ac_r, an_r, atL_t, atK_s, at_r, sq_t, sq_l, sq_f, nxK_s, setK_ok, setK_ex, set_r, seq_r, seqK_nx, seqK_rt, seqK_ro, seqK_bk, seqK_ct, seqK_ex, ifs_r, ifK_t, ifK_f, nx_r, bk_r, ct_r, rets_r, retK_ok, retK_ex, rs_r, rsK_v, rsK_o, retN_r, expr_r, exK_ok, exK_ex, crK_s, crL_ok, crL_ex, cr_r, nod_n, nod_1, call_r, ckA_r, callK_r, agR_s, ag_nil, ag_r, ag_l, agL_v, agL_o, ol_nil, ol_r, ol_l, olK_v, olK_o, bk_nil, bkr, bkl, bkK_v, bkK_o, si_r, siA_ok, siA_ex, siE_t, siB_ok, siC_s, siD_s, isOwn_r, isOwn_o, dfA_t, df_r, dfB_nx, dfB_rt, dfB_ex, ba_v, ba_o, ba_n, nm_n, nm_v, nm_o, p_add, p_sub, p_mul, p_mod, p_fdiv, p_neg, p_int, p_intB, p_cmp, p_ixL, p_ixT, p_ixF, p_lenL, p_lenT, p_lenF, p_listT, p_listL, p_tupleL, p_tupleT, List.getElem?_cons_zero, List.getElem?_cons_succ, List.getElem?_nil, List.set_cons_zero, List.set_cons_succ, List.length_cons, List.length_nil, Option.map_some, Option.map_none, List.cons_append, List.nil_append, List.append_nil, Bool.and_true, Bool.true_and, Bool.or_true, Bool.true_or, Bool.and_false, Bool.false_and, Bool.or_false, Bool.false_or, Bool.not_true, Bool.not_false, decide_true, decide_false]) (by simp (config := { decide := false }) only [k1_ok, k1_ex, k1_no, ret_r, asF_r, asE_r, asI_r, asL_t, as_nil, as_e, as_l, isSet_r, isSet_v, isSet_o, fdR_s, fd_nil, fd_r, fd_l, fdL_v, fdL_o, prC_s, prB_s, prA_r, pr_r, gd_t, sl_r, slK_v, slK_o, k_r, tb_r, tbA_r, tC_s, tB_s, tA_r, t_r, noA_r, not_r, anA_t, anA_f, and_r, orA_t, orA_f, or_r, ifA_t, ifA_f, if_r, anV_t, anV_f, anU_r, andV_r, orV_t, orV_f, orU_r, orV_r, ntV_s, ntU_r, notV_r, tru_b, tru_i, tru_n, tru_t, tru_l, tru_f, free_r, free_u, free_v, free_o, asgK_t, asg_r, asgM_f, asgM_l, asgM_t, acK_s, ac_r, an_r, atL_t, atK_s, at_r, sq_t, sq_l, sq_f, nxK_s, setK_ok, setK_ex, set_r, seq_r, seqK_nx, seqK_rt, seqK_ro, seqK_bk, seqK_ct, seqK_ex, ifs_r, ifK_t, ifK_f, nx_r, bk_r, ct_r, rets_r, retK_ok, retK_ex, rs_r, rsK_v, rsK_o, retN_r, expr_r, exK_ok, exK_ex, crK_s, crL_ok, crL_ex, cr_r, nod_n, nod_1, call_r, ckA_r, callK_r, agR_s, ag_nil, ag_r, ag_l, agL_v, agL_o, ol_nil, ol_r, ol_l, olK_v, olK_o, bk_nil, bkr, bkl, bkK_v, bkK_o, si_r, siA_ok, siA_ex, siE_t, siB_ok, siC_s, siD_s, isOwn_r, isOwn_o, dfA_t, df_r, dfB_nx, dfB_rt, dfB_ex, ba_v, ba_o, ba_n, nm_n, nm_v, nm_o, p_add, p_sub, p_mul, p_mod, p_fdiv, p_neg, p_int, p_intB, p_cmp, p_ixL, p_ixT, p_ixF, p_lenL, p_lenT, p_lenF, p_listT, p_listL, p_tupleL, p_tupleT, List.getElem?_cons_zero, List.getElem?_cons_succ, List.getElem?_nil, List.set_cons_zero, List.set_cons_succ, List.length_cons, List.length_nil, Option.map_some, Option.map_none, List.cons_append, List.nil_append, List.append_nil, Bool.and_true, Bool.true_and, Bool.or_true, Bool.true_or, Bool.and_false, Bool.false_and, Bool.or_false, Bool.false_or, Bool.not_true, Bool.not_false, decide_true, decide_false]) (by rw [hz, zip_self]; simp [Function.comp_def])) rfl (by rw [List.length_map]; exact hl) fun p hp => by
      obtain ⟨x, hx, rfl⟩ := List.mem_map.mp hp
      have sx := S x (H x hx)
      exact ⟨[.v d, .v d, .unk, .v x, .v x], [.v d, .v d, .unk, .v x, .v x], ⟨.bl true, false⟩, rfl, by simp (config := { decide := false }) only [k1_ok, k1_ex, k1_no, ret_r, asF_r, asE_r, asI_r, asL_t, as_nil, as_e, as_l, isSet_r, isSet_v, isSet_o, fdR_s, fd_nil, fd_r, fd_l, fdL_v, fdL_o, prC_s, prB_s, prA_r, pr_r, gd_t, sl_r, slK_v, slK_o, k_r, tb_r, tbA_r, tC_s, tB_s, tA_r, t_r, noA_r, not_r, anA_t, anA_f, and_r, orA_t, orA_f, or_r, ifA_t, ifA_f, if_r, anV_t, anV_f, anU_r, andV_r, orV_t, orV_f, orU_r, orV_r, ntV_s, ntU_r, notV_r, tru_b, tru_i, tru_n, tru_t, tru_l, tru_f, free_r, free_u, free_v, free_o, asgK_t, asg_r, asgM_f, asgM_l, asgM_t, acK_s, ac_r, an_r, atL_t, atK_s, at_r, sq_t, sq_l, sq_f, nxK_s, setK_ok, setK_ex, set_r, seq_r, seqK_nx, seqK_rt, seqK_ro, seqK_bk, seqK_ct, seqK_ex, ifs_r, ifK_t, ifK_f, nx_r, bk_r, ct_r, rets_r, retK_ok, retK_ex, rs_r, rsK_v, rsK_o, retN_r, expr_r, exK_ok, exK_ex, crK_s, crL_ok, crL_ex, cr_r, nod_n, nod_1, call_r, ckA_r, callK_r, agR_s, ag_nil, ag_r, ag_l, agL_v, agL_o, ol_nil, ol_r, ol_l, olK_v, olK_o, bk_nil, bkr, bkl, bkK_v, bkK_o, si_r, siA_ok, siA_ex, siE_t, siB_ok, siC_s, siD_s, isOwn_r, isOwn_o, dfA_t, df_r, dfB_nx, dfB_rt, dfB_ex, ba_v, ba_o, ba_n, nm_n, nm_v, nm_o, p_add, p_sub, p_mul, p_mod, p_fdiv, p_neg, p_int, p_intB, p_cmp, p_ixL, p_ixT, p_ixF, p_lenL, p_lenT, p_lenF, p_listT, p_listL, p_tupleL, p_tupleT, List.getElem?_cons_zero, List.getElem?_cons_succ, List.getElem?_nil, List.set_cons_zero, List.set_cons_succ, List.length_cons, List.length_nil, Option.map_some, Option.map_none, List.cons_append, List.nil_append, List.append_nil, Bool.and_true, Bool.true_and, Bool.or_true, Bool.true_or, Bool.and_false, Bool.false_and, Bool.or_false, Bool.false_or, Bool.not_true, Bool.not_false, decide_true, decide_false, sx], rfl, rfl, rfl⟩
  have e3 : (ds.map fun x => ((D.tup [x, x]), D.bl true)).map (·.2) = ds.map fun _ => D.bl true := by simp [Function.comp_def]
  rw [e3] at e
  exact e
theorem plT {ds : List D} : (D.tup ds).pl = true := rfl
theorem plL {ds : List D} : (D.lst ds).pl = true := rfl
theorem plI {i : Int} : (D.int i).pl = true := rfl
theorem plB {b : Bool} : (D.bl b).pl = true := rfl
theorem plS {x : Str} : (D.str x).pl = true := rfl
theorem plN : D.non.pl = true := rfl
theorem same_ok {self : Ev R} {n : Nat} (S : SameOk self n) : SameOk (defEv 2 3 (tSame self)) (n + 1) := by
  intro d h
  have isiL : ∀ d : D, gIsi [.list] [d] = gd d.pl ⟨.bl ([Ty.list].any d.ty.is), false⟩ := fun _ => rfl
  have isiT : ∀ d : D, gIsi [.tuple] [d] = gd d.pl ⟨.bl ([Ty.tuple].any d.ty.is), false⟩ := fun _ => rfl
  have isiB : ∀ d : D, gIsi [.bool] [d] = gd d.pl ⟨.bl ([Ty.bool].any d.ty.is), false⟩ := fun _ => rfl
  have isN : ∀ d, gIsN id [d, .non] = some ⟨.bl d.isN, false⟩ := fun _ => rfl
  cases h with
  | tup H hl =>
    rename_i ds
    have e := same_comp S (d := .tup ds) rfl H hl
    unfold tSame
    simp (config := { decide := false }) only [k1_ok, k1_ex, k1_no, ret_r, asF_r, asE_r, asI_r, asL_t, as_nil, as_e, as_l, isSet_r, isSet_v, isSet_o, fdR_s, fd_nil, fd_r, fd_l, fdL_v, fdL_o, prC_s, prB_s, prA_r, pr_r, gd_t, sl_r, slK_v, slK_o, k_r, tb_r, tbA_r, tC_s, tB_s, tA_r, t_r, noA_r, not_r, anA_t, anA_f, and_r, orA_t, orA_f, or_r, ifA_t, ifA_f, if_r, anV_t, anV_f, anU_r, andV_r, orV_t, orV_f, orU_r, orV_r, ntV_s, ntU_r, notV_r, tru_b, tru_i, tru_n, tru_t, tru_l, tru_f, free_r, free_u, free_v, free_o, asgK_t, asg_r, asgM_f, asgM_l, asgM_t, acK_s, ac_r, an_r, atL_t, atK_s, at_r, sq_t, sq_l, sq_f, nxK_s, setK_ok, setK_ex, set_r, seq_r, seqK_nx, seqK_rt, seqK_ro, seqK_bk, seqK_ct, seqK_ex, ifs_r, ifK_t, ifK_f, nx_r, bk_r, ct_r, rets_r, retK_ok, retK_ex, rs_r, rsK_v, rsK_o, retN_r, expr_r, exK_ok, exK_ex, crK_s, crL_ok, crL_ex, cr_r, nod_n, nod_1, call_r, ckA_r, callK_r, agR_s, ag_nil, ag_r, ag_l, agL_v, agL_o, ol_nil, ol_r, ol_l, olK_v, olK_o, bk_nil, bkr, bkl, bkK_v, bkK_o, si_r, siA_ok, siA_ex, siE_t, siB_ok, siC_s, siD_s, isOwn_r, isOwn_o, dfA_t, df_r, dfB_nx, dfB_rt, dfB_ex, ba_v, ba_o, ba_n, nm_n, nm_v, nm_o, p_add, p_sub, p_mul, p_mod, p_fdiv, p_neg, p_int, p_intB, p_cmp, p_ixL, p_ixT, p_ixF, p_lenL, p_lenT, p_lenF, p_listT, p_listL, p_tupleL, p_tupleT, List.getElem?_cons_zero, List.getElem?_cons_succ, List.getElem?_nil, List.set_cons_zero, List.set_cons_succ, List.length_cons, List.length_nil, Option.map_some, Option.map_none, List.cons_append, List.nil_append, List.append_nil, Bool.and_true, Bool.true_and, Bool.or_true, Bool.true_or, Bool.and_false, Bool.false_and, Bool.or_false, Bool.false_or, Bool.not_true, Bool.not_false, decide_true, decide_false, List.replicate, Nat.beq, Nat.reduceAdd, isiLTT, isiL, isiT, plT, plL, plI, plB, plS, plN, eqBs, eqIs, id, e, all_true]
  | lst H hl =>
    rename_i ds
    have e := same_comp S (d := .lst ds) rfl H hl
    unfold tSame
    simp (config := { decide := false }) only [k1_ok, k1_ex, k1_no, ret_r, asF_r, asE_r, asI_r, asL_t, as_nil, as_e, as_l, isSet_r, isSet_v, isSet_o, fdR_s, fd_nil, fd_r, fd_l, fdL_v, fdL_o, prC_s, prB_s, prA_r, pr_r, gd_t, sl_r, slK_v, slK_o, k_r, tb_r, tbA_r, tC_s, tB_s, tA_r, t_r, noA_r, not_r, anA_t, anA_f, and_r, orA_t, orA_f, or_r, ifA_t, ifA_f, if_r, anV_t, anV_f, anU_r, andV_r, orV_t, orV_f, orU_r, orV_r, ntV_s, ntU_r, notV_r, tru_b, tru_i, tru_n, tru_t, tru_l, tru_f, free_r, free_u, free_v, free_o, asgK_t, asg_r, asgM_f, asgM_l, asgM_t, acK_s, ac_r, an_r, atL_t, atK_s, at_r, sq_t, sq_l, sq_f, nxK_s, setK_ok, setK_ex, set_r, seq_r, seqK_nx, seqK_rt, seqK_ro, seqK_bk, seqK_ct, seqK_ex, ifs_r, ifK_t, ifK_f, nx_r, bk_r, ct_r, rets_r, retK_ok, retK_ex, rs_r, rsK_v, rsK_o, retN_r, expr_r, exK_ok, exK_ex, crK_s, crL_ok, crL_ex, cr_r, nod_n, nod_1, call_r, ckA_r, callK_r, agR_s, ag_nil, ag_r, ag_l, agL_v, agL_o, ol_nil, ol_r, ol_l, olK_v, olK_o, bk_nil, bkr, bkl, bkK_v, bkK_o, si_r, siA_ok, siA_ex, siE_t, siB_ok, siC_s, siD_s, isOwn_r, isOwn_o, dfA_t, df_r, dfB_nx, dfB_rt, dfB_ex, ba_v, ba_o, ba_n, nm_n, nm_v, nm_o, p_add, p_sub, p_mul, p_mod, p_fdiv, p_neg, p_int, p_intB, p_cmp, p_ixL, p_ixT, p_ixF, p_lenL, p_lenT, p_lenF, p_listT, p_listL, p_tupleL, p_tupleT, List.getElem?_cons_zero, List.getElem?_cons_succ, List.getElem?_nil, List.set_cons_zero, List.set_cons_succ, List.length_cons, List.length_nil, Option.map_some, Option.map_none, List.cons_append, List.nil_append, List.append_nil, Bool.and_true, Bool.true_and, Bool.or_true, Bool.true_or, Bool.and_false, Bool.false_and, Bool.or_false, Bool.false_or, Bool.not_true, Bool.not_false, decide_true, decide_false, List.replicate, Nat.beq, Nat.reduceAdd, isiLTL, isiL, isiT, plT, plL, plI, plB, plS, plN, eqBs, eqIs, id, e, all_true]
  | int i =>
    have c1 : gIsi [.bool, .str] [.int i] = some ⟨.bl false, false⟩ := rfl
    have c2 : gIsi [.bool] [.int i] = some ⟨.bl false, false⟩ := rfl
    have c3 : gIsi [.int] [.int i] = some ⟨.bl true, false⟩ := rfl
    have c4 : gIsN id [.int i, .non] = some ⟨.bl false, false⟩ := rfl
    unfold tSame
    simp (config := { decide := false }) only [k1_ok, k1_ex, k1_no, ret_r, asF_r, asE_r, asI_r, asL_t, as_nil, as_e, as_l, isSet_r, isSet_v, isSet_o, fdR_s, fd_nil, fd_r, fd_l, fdL_v, fdL_o, prC_s, prB_s, prA_r, pr_r, gd_t, sl_r, slK_v, slK_o, k_r, tb_r, tbA_r, tC_s, tB_s, tA_r, t_r, noA_r, not_r, anA_t, anA_f, and_r, orA_t, orA_f, or_r, ifA_t, ifA_f, if_r, anV_t, anV_f, anU_r, andV_r, orV_t, orV_f, orU_r, orV_r, ntV_s, ntU_r, notV_r, tru_b, tru_i, tru_n, tru_t, tru_l, tru_f, free_r, free_u, free_v, free_o, asgK_t, asg_r, asgM_f, asgM_l, asgM_t, acK_s, ac_r, an_r, atL_t, atK_s, at_r, sq_t, sq_l, sq_f, nxK_s, setK_ok, setK_ex, set_r, seq_r, seqK_nx, seqK_rt, seqK_ro, seqK_bk, seqK_ct, seqK_ex, ifs_r, ifK_t, ifK_f, nx_r, bk_r, ct_r, rets_r, retK_ok, retK_ex, rs_r, rsK_v, rsK_o, retN_r, expr_r, exK_ok, exK_ex, crK_s, crL_ok, crL_ex, cr_r, nod_n, nod_1, call_r, ckA_r, callK_r, agR_s, ag_nil, ag_r, ag_l, agL_v, agL_o, ol_nil, ol_r, ol_l, olK_v, olK_o, bk_nil, bkr, bkl, bkK_v, bkK_o, si_r, siA_ok, siA_ex, siE_t, siB_ok, siC_s, siD_s, isOwn_r, isOwn_o, dfA_t, df_r, dfB_nx, dfB_rt, dfB_ex, ba_v, ba_o, ba_n, nm_n, nm_v, nm_o, p_add, p_sub, p_mul, p_mod, p_fdiv, p_neg, p_int, p_intB, p_cmp, p_ixL, p_ixT, p_ixF, p_lenL, p_lenT, p_lenF, p_listT, p_listL, p_tupleL, p_tupleT, List.getElem?_cons_zero, List.getElem?_cons_succ, List.getElem?_nil, List.set_cons_zero, List.set_cons_succ, List.length_cons, List.length_nil, Option.map_some, Option.map_none, List.cons_append, List.nil_append, List.append_nil, Bool.and_true, Bool.true_and, Bool.or_true, Bool.true_or, Bool.and_false, Bool.false_and, Bool.or_false, Bool.false_or, Bool.not_true, Bool.not_false, decide_true, decide_false, List.replicate, Nat.beq, Nat.reduceAdd, isiLTI, c1, c2, c3, c4, eqIs, id]
  | bl b =>
    have c0 : gIsi [.list, .tuple] [.bl b] = some ⟨.bl false, false⟩ := rfl
    have c1 : gIsi [.bool, .str] [.bl b] = some ⟨.bl true, false⟩ := rfl
    have c4 : gIsN id [.bl b, .non] = some ⟨.bl false, false⟩ := rfl
    unfold tSame
    simp (config := { decide := false }) only [k1_ok, k1_ex, k1_no, ret_r, asF_r, asE_r, asI_r, asL_t, as_nil, as_e, as_l, isSet_r, isSet_v, isSet_o, fdR_s, fd_nil, fd_r, fd_l, fdL_v, fdL_o, prC_s, prB_s, prA_r, pr_r, gd_t, sl_r, slK_v, slK_o, k_r, tb_r, tbA_r, tC_s, tB_s, tA_r, t_r, noA_r, not_r, anA_t, anA_f, and_r, orA_t, orA_f, or_r, ifA_t, ifA_f, if_r, anV_t, anV_f, anU_r, andV_r, orV_t, orV_f, orU_r, orV_r, ntV_s, ntU_r, notV_r, tru_b, tru_i, tru_n, tru_t, tru_l, tru_f, free_r, free_u, free_v, free_o, asgK_t, asg_r, asgM_f, asgM_l, asgM_t, acK_s, ac_r, an_r, atL_t, atK_s, at_r, sq_t, sq_l, sq_f, nxK_s, setK_ok, setK_ex, set_r, seq_r, seqK_nx, seqK_rt, seqK_ro, seqK_bk, seqK_ct, seqK_ex, ifs_r, ifK_t, ifK_f, nx_r, bk_r, ct_r, rets_r, retK_ok, retK_ex, rs_r, rsK_v, rsK_o, retN_r, expr_r, exK_ok, exK_ex, crK_s, crL_ok, crL_ex, cr_r, nod_n, nod_1, call_r, ckA_r, callK_r, agR_s, ag_nil, ag_r, ag_l, agL_v, agL_o, ol_nil, ol_r, ol_l, olK_v, olK_o, bk_nil, bkr, bkl, bkK_v, bkK_o, si_r, siA_ok, siA_ex, siE_t, siB_ok, siC_s, siD_s, isOwn_r, isOwn_o, dfA_t, df_r, dfB_nx, dfB_rt, dfB_ex, ba_v, ba_o, ba_n, nm_n, nm_v, nm_o, p_add, p_sub, p_mul, p_mod, p_fdiv, p_neg, p_int, p_intB, p_cmp, p_ixL, p_ixT, p_ixF, p_lenL, p_lenT, p_lenF, p_listT, p_listL, p_tupleL, p_tupleT, List.getElem?_cons_zero, List.getElem?_cons_succ, List.getElem?_nil, List.set_cons_zero, List.set_cons_succ, List.length_cons, List.length_nil, Option.map_some, Option.map_none, List.cons_append, List.nil_append, List.append_nil, Bool.and_true, Bool.true_and, Bool.or_true, Bool.true_or, Bool.and_false, Bool.false_and, Bool.or_false, Bool.false_or, Bool.not_true, Bool.not_false, decide_true, decide_false, List.replicate, Nat.beq, Nat.reduceAdd, c0, c1, c4, isiB, plT, plL, plI, plB, plS, plN, eqBs, id]
  | non =>
    have c0 : gIsi [.list, .tuple] [.non] = some ⟨.bl false, false⟩ := rfl
    have c4 : gIsN id [.non, .non] = some ⟨.bl true, false⟩ := rfl
    unfold tSame
    simp (config := { decide := false }) only [k1_ok, k1_ex, k1_no, ret_r, asF_r, asE_r, asI_r, asL_t, as_nil, as_e, as_l, isSet_r, isSet_v, isSet_o, fdR_s, fd_nil, fd_r, fd_l, fdL_v, fdL_o, prC_s, prB_s, prA_r, pr_r, gd_t, sl_r, slK_v, slK_o, k_r, tb_r, tbA_r, tC_s, tB_s, tA_r, t_r, noA_r, not_r, anA_t, anA_f, and_r, orA_t, orA_f, or_r, ifA_t, ifA_f, if_r, anV_t, anV_f, anU_r, andV_r, orV_t, orV_f, orU_r, orV_r, ntV_s, ntU_r, notV_r, tru_b, tru_i, tru_n, tru_t, tru_l, tru_f, free_r, free_u, free_v, free_o, asgK_t, asg_r, asgM_f, asgM_l, asgM_t, acK_s, ac_r, an_r, atL_t, atK_s, at_r, sq_t, sq_l, sq_f, nxK_s, setK_ok, setK_ex, set_r, seq_r, seqK_nx, seqK_rt, seqK_ro, seqK_bk, seqK_ct, seqK_ex, ifs_r, ifK_t, ifK_f, nx_r, bk_r, ct_r, rets_r, retK_ok, retK_ex, rs_r, rsK_v, rsK_o, retN_r, expr_r, exK_ok, exK_ex, crK_s, crL_ok, crL_ex, cr_r, nod_n, nod_1, call_r, ckA_r, callK_r, agR_s, ag_nil, ag_r, ag_l, agL_v, agL_o, ol_nil, ol_r, ol_l, olK_v, olK_o, bk_nil, bkr, bkl, bkK_v, bkK_o, si_r, siA_ok, siA_ex, siE_t, siB_ok, siC_s, siD_s, isOwn_r, isOwn_o, dfA_t, df_r, dfB_nx, dfB_rt, dfB_ex, ba_v, ba_o, ba_n, nm_n, nm_v, nm_o, p_add, p_sub, p_mul, p_mod, p_fdiv, p_neg, p_int, p_intB, p_cmp, p_ixL, p_ixT, p_ixF, p_lenL, p_lenT, p_lenF, p_listT, p_listL, p_tupleL, p_tupleT, List.getElem?_cons_zero, List.getElem?_cons_succ, List.getElem?_nil, List.set_cons_zero, List.set_cons_succ, List.length_cons, List.length_nil, Option.map_some, Option.map_none, List.cons_append, List.nil_append, List.append_nil, Bool.and_true, Bool.true_and, Bool.or_true, Bool.true_or, Bool.and_false, Bool.false_and, Bool.or_false, Bool.false_or, Bool.not_true, Bool.not_false, decide_true, decide_false, List.replicate, Nat.beq, Nat.reduceAdd, c0, c4, isiB, plT, plL, plI, plB, plS, plN, eqBs, eqNs, id]
  | str x =>
    have c0 : gIsi [.list, .tuple] [.str x] = some ⟨.bl false, false⟩ := rfl
    have c1 : gIsi [.bool, .str] [.str x] = some ⟨.bl true, false⟩ := rfl
    have c4 : gIsN id [.str x, .non] = some ⟨.bl false, false⟩ := rfl
    unfold tSame
    simp (config := { decide := false }) only [k1_ok, k1_ex, k1_no, ret_r, asF_r, asE_r, asI_r, asL_t, as_nil, as_e, as_l, isSet_r, isSet_v, isSet_o, fdR_s, fd_nil, fd_r, fd_l, fdL_v, fdL_o, prC_s, prB_s, prA_r, pr_r, gd_t, sl_r, slK_v, slK_o, k_r, tb_r, tbA_r, tC_s, tB_s, tA_r, t_r, noA_r, not_r, anA_t, anA_f, and_r, orA_t, orA_f, or_r, ifA_t, ifA_f, if_r, anV_t, anV_f, anU_r, andV_r, orV_t, orV_f, orU_r, orV_r, ntV_s, ntU_r, notV_r, tru_b, tru_i, tru_n, tru_t, tru_l, tru_f, free_r, free_u, free_v, free_o, asgK_t, asg_r, asgM_f, asgM_l, asgM_t, acK_s, ac_r, an_r, atL_t, atK_s, at_r, sq_t, sq_l, sq_f, nxK_s, setK_ok, setK_ex, set_r, seq_r, seqK_nx, seqK_rt, seqK_ro, seqK_bk, seqK_ct, seqK_ex, ifs_r, ifK_t, ifK_f, nx_r, bk_r, ct_r, rets_r, retK_ok, retK_ex, rs_r, rsK_v, rsK_o, retN_r, expr_r, exK_ok, exK_ex, crK_s, crL_ok, crL_ex, cr_r, nod_n, nod_1, call_r, ckA_r, callK_r, agR_s, ag_nil, ag_r, ag_l, agL_v, agL_o, ol_nil, ol_r, ol_l, olK_v, olK_o, bk_nil, bkr, bkl, bkK_v, bkK_o, si_r, siA_ok, siA_ex, siE_t, siB_ok, siC_s, siD_s, isOwn_r, isOwn_o, dfA_t, df_r, dfB_nx, dfB_rt, dfB_ex, ba_v, ba_o, ba_n, nm_n, nm_v, nm_o, p_add, p_sub, p_mul, p_mod, p_fdiv, p_neg, p_int, p_intB, p_cmp, p_ixL, p_ixT, p_ixF, p_lenL, p_lenT, p_lenF, p_listT, p_listL, p_tupleL, p_tupleT, List.getElem?_cons_zero, List.getElem?_cons_succ, List.getElem?_nil, List.set_cons_zero, List.set_cons_succ, List.length_cons, List.length_nil, Option.map_some, Option.map_none, List.cons_append, List.nil_append, List.append_nil, Bool.and_true, Bool.true_and, Bool.or_true, Bool.true_or, Bool.and_false, Bool.false_and, Bool.or_false, Bool.false_or, Bool.not_true, Bool.not_false, decide_true, decide_false, List.replicate, Nat.beq, Nat.reduceAdd, c0, c1, c4, isiB, plT, plL, plI, plB, plS, plN, eqBs, eqSs, id]
end L3

/-! M5: the source of draws, the script's numbers. -/
namespace L3
open PySem L2
def tBox (C : Int) : EvS :=
  sSeq (sSet (asgSl 2) (evIf (evTB (evPr (gCmp fun i j => decide (i < j)) [.late 1, .e (evPr gLen [.late 0])])) (evPr gIx [.late 0, .late 1]) (evK (.int (0)))))
  (sRet (evPr gLst [.e (evPr gMul [.e (evPr gAbs [.late 2]), .e (evPr gInt [.e (evPr (gCmp fun i j => decide (j ≤ i)) [.e (evPr gAbs [.late 2]), .e (evPr gPow [.e (evK (.int (10))), .e (evK (.int (18)))])])])]), .e (evPr gAdd [.e (evPr gAdd [.e (evPr gMod [.e (evPr gInt [.late 2]), .e (evK (.int (2305843009213693951)))]), .e (evPr gMul [.e (evK (.int (39373))), .late 1])]), .e (evK (.int C))]), .e (evK (.int (0)))]))
theorem at_nat {α : Type} {l : List α} {k : Nat} {a : α} (h : l[k]? = some a) : atI l (k : Int) = some a := by
  have hk := (List.getElem?_eq_some_iff.mp h).1
  unfold atI ixN
  rw [if_pos (by omega), if_pos (by omega)]
  exact h
theorem pow18 : gPow [.int 10, .int 18] = some ⟨.int 1000000000000000000, false⟩ := by kernel_rfl
def BoxOk (fe : Ev R) : Prop := ∀ (ns : List Int) (k : Nat), k < ns.length → k < 1000 → ∃ x y, Bx x y 0 (2 ^ 40) ∧ fe [.v (.lst (ns.map .int)), .v (.int (k : Nat))] = some (.ok ⟨.lst (bx x y 0), true⟩ [.v (.lst (ns.map .int)), .v (.int (k : Nat))])
theorem box_ok {C : Int} (hC : 0 ≤ C) (hC2 : C < 2 ^ 40) : BoxOk (defEv 2 1 (tBox C)) := by
  intro ns k hk hk2
  have hi : (ns.map D.int)[k]? = some (.int ns[k]) := by simp [hk]
  have h1 := at_nat hi
  have c1 : decide ((k : Int) < ((ns.map D.int).length : Nat)) = true := decide_eq_true (by rw [List.length_map]; omega)
  have ab : ∀ i, gAbs [.int i] = some ⟨.int (if i < 0 then -i else i), false⟩ := fun _ => rfl
  generalize ns[k] = m at h1
  have a0 : 0 ≤ (if m < 0 then -m else m) := by split <;> omega
  generalize ha : (if m < 0 then -m else m) = a at a0
  have sb : ∀ b, small64 (bi b) = true := fun b => by cases b <;> rfl
  have hb0 : ∀ b, 0 ≤ bi b := fun b => by cases b <;> decide
  have q0 : decide ((0 : Int) < 2305843009213693951) = true := rfl
  have s1 : small64 39373 = true := by decide
  have m0 := Int.emod_nonneg m (show (2305843009213693951 : Int) ≠ 0 by decide)
  have m1 := Int.emod_lt_of_pos m (show (0 : Int) < 2305843009213693951 by decide)
  have hl : ([.int (a * bi (decide (1000000000000000000 ≤ a))), .int (m % 2305843009213693951 + 39373 * (k : Int) + C), .int 0] : List D).length ≤ LIM := by show 3 ≤ LIM; decide
  refine ⟨a * bi (decide (1000000000000000000 ≤ a)), m % 2305843009213693951 + 39373 * (k : Int) + C, ⟨Int.mul_nonneg a0 (hb0 _), by omega, by omega, by decide, by decide⟩, ?_⟩
  unfold tBox
  simp (config := { decide := false }) only [k1_ok, k1_ex, k1_no, ret_r, asF_r, asE_r, asI_r, asL_t, as_nil, as_e, as_l, isSet_r, isSet_v, isSet_o, fdR_s, fd_nil, fd_r, fd_l, fdL_v, fdL_o, prC_s, prB_s, prA_r, pr_r, gd_t, sl_r, slK_v, slK_o, k_r, tb_r, tbA_r, tC_s, tB_s, tA_r, t_r, noA_r, not_r, anA_t, anA_f, and_r, orA_t, orA_f, or_r, ifA_t, ifA_f, if_r, anV_t, anV_f, anU_r, andV_r, orV_t, orV_f, orU_r, orV_r, ntV_s, ntU_r, notV_r, tru_b, tru_i, tru_n, tru_t, tru_l, tru_f, free_r, free_u, free_v, free_o, asgK_t, asg_r, asgM_f, asgM_l, asgM_t, acK_s, ac_r, an_r, atL_t, atK_s, at_r, sq_t, sq_l, sq_f, nxK_s, setK_ok, setK_ex, set_r, seq_r, seqK_nx, seqK_rt, seqK_ro, seqK_bk, seqK_ct, seqK_ex, ifs_r, ifK_t, ifK_f, nx_r, bk_r, ct_r, rets_r, retK_ok, retK_ex, rs_r, rsK_v, rsK_o, retN_r, expr_r, exK_ok, exK_ex, crK_s, crL_ok, crL_ex, cr_r, nod_n, nod_1, call_r, ckA_r, callK_r, agR_s, ag_nil, ag_r, ag_l, agL_v, agL_o, ol_nil, ol_r, ol_l, olK_v, olK_o, bk_nil, bkr, bkl, bkK_v, bkK_o, si_r, siA_ok, siA_ex, siE_t, siB_ok, siC_s, siD_s, isOwn_r, isOwn_o, dfA_t, df_r, dfB_nx, dfB_rt, dfB_ex, ba_v, ba_o, ba_n, nm_n, nm_v, nm_o, p_add, p_sub, p_mul, p_mod, p_fdiv, p_neg, p_int, p_intB, p_cmp, p_ixL, p_ixT, p_ixF, p_lenL, p_lenT, p_lenF, p_listT, p_listL, p_tupleL, p_tupleT, List.getElem?_cons_zero, List.getElem?_cons_succ, List.getElem?_nil, List.set_cons_zero, List.set_cons_succ, List.length_cons, List.length_nil, Option.map_some, Option.map_none, List.cons_append, List.nil_append, List.append_nil, Bool.and_true, Bool.true_and, Bool.or_true, Bool.true_or, Bool.and_false, Bool.false_and, Bool.or_false, Bool.false_or, Bool.not_true, Bool.not_false, decide_true, decide_false, List.replicate, Nat.beq, Nat.reduceAdd, c1, h1, ab, ha, pow18, sb, q0, s1, p_lst hl]
end L3

/-! M6: the script's numbers. -/
namespace L3
open PySem L2
theorem sli_r {s : SA} {lo hi : Option (Ev R)} {ρ ρ1 ρ2 ρ3 : Sls} {rs : List (Nat ⊕ D)} {l h : Option Int} {d : D} {r : R} (h1 : evAs [s] ρ = some (.ok rs ρ1)) (h2 : evO lo ρ1 = some (.ok l ρ2)) (h3 : evO hi ρ2 = some (.ok h ρ3)) (h4 : finD ρ3 rs = some [d]) (h5 : gSl l h d = some r) : evSli s lo hi ρ = some (.ok r ρ3) := by
  show ((evAs [s]).bind _) ρ = _
  unfold Ev.bind
  simp only [h1, h2, h3, h4, h5]
theorem evO_s {f : Ev R} {ρ ρ' : Sls} {i : Int} {fr : Bool} (h : f ρ = some (.ok ⟨.int i, fr⟩ ρ')) : evO (some f) ρ = some (.ok (some i) ρ') := by
  show (f.bind _) ρ = _
  unfold Ev.bind
  simp only [h]
theorem for_r {fi : EvI} {g : TgE} {body : EvS} {ρ ρ' : Sls} {items : List D} (h : fi ρ = some (.ok (items, none) ρ')) : sFor fi g body ρ = evFor g body items ρ' := by
  unfold sFor
  simp only [h]
theorem for_nil {g : TgE} {body : EvS} {ρ : Sls} : evFor g body [] ρ = some (.nx ρ) := rfl
theorem for_nx {g : TgE} {body : EvS} {ρ ρ1 ρ2 : Sls} {d : D} {ds : List D} (h1 : g ⟨d, false⟩ ρ = some ρ1) (h2 : body ρ1 = some (.nx ρ2)) : evFor g body (d :: ds) ρ = evFor g body ds ρ2 := by
  conv => lhs; unfold evFor
  simp only [h1, h2]
theorem for_rt {g : TgE} {body : EvS} {ρ ρ1 ρ2 : Sls} {d : D} {ds : List D} {r : R} (h1 : g ⟨d, false⟩ ρ = some ρ1) (h2 : body ρ1 = some (.rt r ρ2)) : evFor g body (d :: ds) ρ = some (.rt r ρ2) := by
  conv => lhs; unfold evFor
  simp only [h1, h2]
def cBody : EvS := sSeq (sSet (asgSl 5) (evPr gMod [.e (evPr gInt [.late 3]), .late 1]))
    (sSetIx 2 (evSl 5) (evPr gAdd [.e (evPr gIx [.late 2, .late 5]), .e (evPr gMul [.late 4, .e (evPr gAdd [.late 3, .e (evK (.int (2)))])])]))
def tCells : EvS :=
  sSeq (sSet (asgSl 2) (evOr (evPr gList [.e (evSli (.late 0) none (some (evSl 1)))]) (evPr gLst [.e (evK (.int (0)))])))
  (sSeq (sFor (evItm gEn1 [.e (evSli (.late 0) (some (evSl 1)) (some (evK (.int (63)))))]) (asgTup 2 (asgCons (asgSl 3) (asgCons (asgSl 4) asgNil)))
    (sSeq (sSet (asgSl 5) (evPr gMod [.e (evPr gInt [.late 3]), .late 1]))
    (sSetIx 2 (evSl 5) (evPr gAdd [.e (evPr gIx [.late 2, .late 5]), .e (evPr gMul [.late 4, .e (evPr gAdd [.late 3, .e (evK (.int (2)))])])]))))
  (sRetSl 2))
theorem cells_body {s0 s5 : Slot} {m c w : Int} {cs : List Int} (hm : 0 < m) (hl : (cs.length : Int) = m) (hc : 0 ≤ c) (hc2 : c < 1000) (hf : freeK (some s5) = true) :
    ∃ (cs' : List Int) (v : Int), cs'.length = cs.length ∧ cBody [s0, .v (.int m), .own 0 (cs.map .int), .v (.int c), .v (.int w), s5] = some (.nx [s0, .v (.int m), .own 0 (cs'.map .int), .v (.int c), .v (.int w), .v (.int v)]) := by
  have j0 := Int.emod_nonneg c (show m ≠ 0 by omega)
  have j1 := Int.emod_lt_of_pos c hm
  have ej : c % m = (((c % m).toNat : Nat) : Int) := by omega
  have hj : (c % m).toNat < cs.length := by omega
  have hi : (cs.map D.int)[(c % m).toNat]? = some (.int cs[(c % m).toNat]) := by simp [hj]
  have h1 := at_nat hi
  rw [← ej] at h1
  have h2 : ixN (cs.map D.int).length (c % m) = some (c % m).toNat := by
    unfold ixN
    rw [List.length_map, if_pos j0, if_pos (by omega)]
  have hm' : decide (0 < m) = true := decide_eq_true hm
  have s1 : small64 (c + 2) = true := small_of (by omega) (by omega)
  have mt : mutable 0 = true := rfl
  have se : ∀ v : Int, (cs.map D.int).set (c % m).toNat (.int v) = (cs.set (c % m).toNat v).map .int := fun v => by rw [List.map_set]
  refine ⟨cs.set (c % m).toNat (cs[(c % m).toNat] + w * (c + 2)), c % m, by rw [List.length_set], ?_⟩
  unfold cBody
  simp (config := { decide := false }) only [k1_ok, k1_ex, k1_no, ret_r, asF_r, asE_r, asI_r, asL_t, as_nil, as_e, as_l, isSet_r, isSet_v, isSet_o, fdR_s, fd_nil, fd_r, fd_l, fdL_v, fdL_o, prC_s, prB_s, prA_r, pr_r, gd_t, sl_r, slK_v, slK_o, k_r, tb_r, tbA_r, tC_s, tB_s, tA_r, t_r, noA_r, not_r, anA_t, anA_f, and_r, orA_t, orA_f, or_r, ifA_t, ifA_f, if_r, anV_t, anV_f, anU_r, andV_r, orV_t, orV_f, orU_r, orV_r, ntV_s, ntU_r, notV_r, tru_b, tru_i, tru_n, tru_t, tru_l, tru_f, free_r, free_u, free_v, free_o, asgK_t, asg_r, asgM_f, asgM_l, asgM_t, acK_s, ac_r, an_r, atL_t, atK_s, at_r, sq_t, sq_l, sq_f, nxK_s, setK_ok, setK_ex, set_r, seq_r, seqK_nx, seqK_rt, seqK_ro, seqK_bk, seqK_ct, seqK_ex, ifs_r, ifK_t, ifK_f, nx_r, bk_r, ct_r, rets_r, retK_ok, retK_ex, rs_r, rsK_v, rsK_o, retN_r, expr_r, exK_ok, exK_ex, crK_s, crL_ok, crL_ex, cr_r, nod_n, nod_1, call_r, ckA_r, callK_r, agR_s, ag_nil, ag_r, ag_l, agL_v, agL_o, ol_nil, ol_r, ol_l, olK_v, olK_o, bk_nil, bkr, bkl, bkK_v, bkK_o, si_r, siA_ok, siA_ex, siE_t, siB_ok, siC_s, siD_s, isOwn_r, isOwn_o, dfA_t, df_r, dfB_nx, dfB_rt, dfB_ex, ba_v, ba_o, ba_n, nm_n, nm_v, nm_o, p_add, p_sub, p_mul, p_mod, p_fdiv, p_neg, p_int, p_intB, p_cmp, p_ixL, p_ixT, p_ixF, p_lenL, p_lenT, p_lenF, p_listT, p_listL, p_tupleL, p_tupleT, List.getElem?_cons_zero, List.getElem?_cons_succ, List.getElem?_nil, List.set_cons_zero, List.set_cons_succ, List.length_cons, List.length_nil, Option.map_some, Option.map_none, List.cons_append, List.nil_append, List.append_nil, Bool.and_true, Bool.true_and, Bool.or_true, Bool.true_or, Bool.and_false, Bool.false_and, Bool.or_false, Bool.false_or, Bool.not_true, Bool.not_false, decide_true, decide_false, hm', h1, h2, s1, mt, se, hf]
theorem cells_for {s0 : Slot} {m : Int} (hm : 0 < m) : ∀ (ws : List Int) (c : Int) (cs : List Int) (s3 s4 s5 : Slot), (cs.length : Int) = m → 0 ≤ c → c + ws.length < 1000 → freeK (some s3) = true → freeK (some s4) = true → freeK (some s5) = true →
    ∃ (cs' : List Int) (s3' s4' s5' : Slot), cs'.length = cs.length ∧ evFor (asgTup 2 (asgCons (asgSl 3) (asgCons (asgSl 4) asgNil))) cBody (enD c (ws.map .int)) [s0, .v (.int m), .own 0 (cs.map .int), s3, s4, s5] = some (.nx [s0, .v (.int m), .own 0 (cs'.map .int), s3', s4', s5'])
  | [], c, cs, s3, s4, s5, _, _, _, _, _, _ => ⟨cs, s3, s4, s5, rfl, rfl⟩
  | w :: ws, c, cs, s3, s4, s5, hl, hc, hc2, f3, f4, f5 => by
    simp only [List.length_cons] at hc2
    obtain ⟨cs1, v, l1, e1⟩ := cells_body (s0 := s0) (w := w) hm hl hc (by omega) f5
    obtain ⟨cs2, s3', s4', s5', l2, e2⟩ := cells_for hm ws (c + 1) cs1 (.v (.int c)) (.v (.int w)) (.v (.int v)) (by omega) (by omega) (by omega) rfl rfl rfl
    refine ⟨cs2, s3', s4', s5', l2.trans l1, ?_⟩
    have g : asgTup 2 (asgCons (asgSl 3) (asgCons (asgSl 4) asgNil)) ⟨.tup [.int c, .int w], false⟩ [s0, .v (.int m), .own 0 (cs.map .int), s3, s4, s5] = some [s0, .v (.int m), .own 0 (cs.map .int), .v (.int c), .v (.int w), s5] := by
      simp (config := { decide := false }) only [k1_ok, k1_ex, k1_no, ret_r, asF_r, asE_r, asI_r, asL_t, as_nil, as_e, as_l, isSet_r, isSet_v, isSet_o, fdR_s, fd_nil, fd_r, fd_l, fdL_v, fdL_o, prC_s, prB_s, prA_r, pr_r, gd_t, sl_r, slK_v, slK_o, k_r, tb_r, tbA_r, tC_s, tB_s, tA_r, t_r, noA_r, not_r, anA_t, anA_f, and_r, orA_t, orA_f, or_r, ifA_t, ifA_f, if_r, anV_t, anV_f, anU_r, andV_r, orV_t, orV_f, orU_r, orV_r, ntV_s, ntU_r, notV_r, tru_b, tru_i, tru_n, tru_t, tru_l, tru_f, free_r, free_u, free_v, free_o, asgK_t, asg_r, asgM_f, asgM_l, asgM_t, acK_s, ac_r, an_r, atL_t, atK_s, at_r, sq_t, sq_l, sq_f, nxK_s, setK_ok, setK_ex, set_r, seq_r, seqK_nx, seqK_rt, seqK_ro, seqK_bk, seqK_ct, seqK_ex, ifs_r, ifK_t, ifK_f, nx_r, bk_r, ct_r, rets_r, retK_ok, retK_ex, rs_r, rsK_v, rsK_o, retN_r, expr_r, exK_ok, exK_ex, crK_s, crL_ok, crL_ex, cr_r, nod_n, nod_1, call_r, ckA_r, callK_r, agR_s, ag_nil, ag_r, ag_l, agL_v, agL_o, ol_nil, ol_r, ol_l, olK_v, olK_o, bk_nil, bkr, bkl, bkK_v, bkK_o, si_r, siA_ok, siA_ex, siE_t, siB_ok, siC_s, siD_s, isOwn_r, isOwn_o, dfA_t, df_r, dfB_nx, dfB_rt, dfB_ex, ba_v, ba_o, ba_n, nm_n, nm_v, nm_o, p_add, p_sub, p_mul, p_mod, p_fdiv, p_neg, p_int, p_intB, p_cmp, p_ixL, p_ixT, p_ixF, p_lenL, p_lenT, p_lenF, p_listT, p_listL, p_tupleL, p_tupleT, List.getElem?_cons_zero, List.getElem?_cons_succ, List.getElem?_nil, List.set_cons_zero, List.set_cons_succ, List.length_cons, List.length_nil, Option.map_some, Option.map_none, List.cons_append, List.nil_append, List.append_nil, Bool.and_true, Bool.true_and, Bool.or_true, Bool.true_or, Bool.and_false, Bool.false_and, Bool.or_false, Bool.false_or, Bool.not_true, Bool.not_false, decide_true, decide_false, Nat.beq, Nat.reduceAdd, f3, f4]
    exact (for_nx g e1).trans e2
def CellsOk (fe : Ev R) (m : Nat) : Prop := ∀ ns : List Int, ns.length ≤ 63 → ∃ ms : List Int, 1 ≤ ms.length ∧ ms.length ≤ m ∧ fe [.v (.fls (ns.map .int)), .v (.int (m : Nat))] = some (.ok ⟨.lst (ms.map .int), true⟩ [.v (.fls (ns.map .int)), .v (.int (m : Nat))])
theorem cells_ok {m : Nat} (hm : 1 ≤ m) (hm2 : m ≤ 63) : CellsOk (defEv 2 4 tCells) m := by
  intro ns hn
  have k1 : cutD (ns.map D.int) none (some ((m : Nat) : Int)) = (ns.take m).map .int := by
    unfold cutD
    rw [HT.sIx_nat, HT.sIx_none, List.length_map, Nat.sub_zero, List.drop_zero, ← List.map_take]
    congr 1
    by_cases h : m ≤ ns.length
    · rw [Nat.min_eq_left h]
    · rw [Nat.min_eq_right (by omega), List.take_of_length_le (by omega), List.take_of_length_le (by omega)]
  have k2 : ∃ ws : List Int, cutD (ns.map D.int) (some ((m : Nat) : Int)) (some 63) = ws.map .int ∧ ws.length ≤ 63 ∧ (ns.length ≤ m → ws = []) := by
    refine ⟨(ns.drop (min m ns.length)).take (min 63 ns.length - min m ns.length), ?_, ?_, fun h => ?_⟩
    · unfold cutD
      have e63 : HT.sIx (ns.map D.int).length (ns.map D.int).length (some 63) = min 63 ns.length := by rw [List.length_map]; exact HT.sIx_nat _ _ 63
      rw [e63, HT.sIx_nat, List.length_map, List.map_take, List.map_drop]
    · rw [List.length_take]; omega
    · have : min m ns.length = ns.length := by omega
      rw [this]; simp
  obtain ⟨ws, k2, k3, k4⟩ := k2
  have b1 : evSli (.late 0) none (some (evSl 1)) [.v (.fls (ns.map .int)), .v (.int (m : Nat)), .unk, .unk, .unk, .unk] = some (.ok ⟨.lst ((ns.take m).map .int), true⟩ [.v (.fls (ns.map .int)), .v (.int (m : Nat)), .unk, .unk, .unk, .unk]) :=
    sli_r (rs := [.inl 0]) (d := .fls (ns.map .int)) (ρ1 := [.v (.fls (ns.map .int)), .v (.int (m : Nat)), .unk, .unk, .unk, .unk]) (ρ2 := [.v (.fls (ns.map .int)), .v (.int (m : Nat)), .unk, .unk, .unk, .unk]) (l := none) (h := some (m : Nat)) (by simp (config := { decide := false }) only [k1_ok, k1_ex, k1_no, ret_r, asF_r, asE_r, asI_r, asL_t, as_nil, as_e, as_l, isSet_r, isSet_v, isSet_o, fdR_s, fd_nil, fd_r, fd_l, fdL_v, fdL_o, prC_s, prB_s, prA_r, pr_r, gd_t, sl_r, slK_v, slK_o, k_r, tb_r, tbA_r, tC_s, tB_s, tA_r, t_r, noA_r, not_r, anA_t, anA_f, and_r, orA_t, orA_f, or_r, ifA_t, ifA_f, if_r, anV_t, anV_f, anU_r, andV_r, orV_t, orV_f, orU_r, orV_r, ntV_s, ntU_r, notV_r, tru_b, tru_i, tru_n, tru_t, tru_l, tru_f, free_r, free_u, free_v, free_o, asgK_t, asg_r, asgM_f, asgM_l, asgM_t, acK_s, ac_r, an_r, atL_t, atK_s, at_r, sq_t, sq_l, sq_f, nxK_s, setK_ok, setK_ex, set_r, seq_r, seqK_nx, seqK_rt, seqK_ro, seqK_bk, seqK_ct, seqK_ex, ifs_r, ifK_t, ifK_f, nx_r, bk_r, ct_r, rets_r, retK_ok, retK_ex, rs_r, rsK_v, rsK_o, retN_r, expr_r, exK_ok, exK_ex, crK_s, crL_ok, crL_ex, cr_r, nod_n, nod_1, call_r, ckA_r, callK_r, agR_s, ag_nil, ag_r, ag_l, agL_v, agL_o, ol_nil, ol_r, ol_l, olK_v, olK_o, bk_nil, bkr, bkl, bkK_v, bkK_o, si_r, siA_ok, siA_ex, siE_t, siB_ok, siC_s, siD_s, isOwn_r, isOwn_o, dfA_t, df_r, dfB_nx, dfB_rt, dfB_ex, ba_v, ba_o, ba_n, nm_n, nm_v, nm_o, p_add, p_sub, p_mul, p_mod, p_fdiv, p_neg, p_int, p_intB, p_cmp, p_ixL, p_ixT, p_ixF, p_lenL, p_lenT, p_lenF, p_listT, p_listL, p_tupleL, p_tupleT, List.getElem?_cons_zero, List.getElem?_cons_succ, List.getElem?_nil, List.set_cons_zero, List.set_cons_succ, List.length_cons, List.length_nil, Option.map_some, Option.map_none, List.cons_append, List.nil_append, List.append_nil, Bool.and_true, Bool.true_and, Bool.or_true, Bool.true_or, Bool.and_false, Bool.false_and, Bool.or_false, Bool.false_or, Bool.not_true, Bool.not_false, decide_true, decide_false]) rfl (evO_s (fr := false) (by simp (config := { decide := false }) only [k1_ok, k1_ex, k1_no, ret_r, asF_r, asE_r, asI_r, asL_t, as_nil, as_e, as_l, isSet_r, isSet_v, isSet_o, fdR_s, fd_nil, fd_r, fd_l, fdL_v, fdL_o, prC_s, prB_s, prA_r, pr_r, gd_t, sl_r, slK_v, slK_o, k_r, tb_r, tbA_r, tC_s, tB_s, tA_r, t_r, noA_r, not_r, anA_t, anA_f, and_r, orA_t, orA_f, or_r, ifA_t, ifA_f, if_r, anV_t, anV_f, anU_r, andV_r, orV_t, orV_f, orU_r, orV_r, ntV_s, ntU_r, notV_r, tru_b, tru_i, tru_n, tru_t, tru_l, tru_f, free_r, free_u, free_v, free_o, asgK_t, asg_r, asgM_f, asgM_l, asgM_t, acK_s, ac_r, an_r, atL_t, atK_s, at_r, sq_t, sq_l, sq_f, nxK_s, setK_ok, setK_ex, set_r, seq_r, seqK_nx, seqK_rt, seqK_ro, seqK_bk, seqK_ct, seqK_ex, ifs_r, ifK_t, ifK_f, nx_r, bk_r, ct_r, rets_r, retK_ok, retK_ex, rs_r, rsK_v, rsK_o, retN_r, expr_r, exK_ok, exK_ex, crK_s, crL_ok, crL_ex, cr_r, nod_n, nod_1, call_r, ckA_r, callK_r, agR_s, ag_nil, ag_r, ag_l, agL_v, agL_o, ol_nil, ol_r, ol_l, olK_v, olK_o, bk_nil, bkr, bkl, bkK_v, bkK_o, si_r, siA_ok, siA_ex, siE_t, siB_ok, siC_s, siD_s, isOwn_r, isOwn_o, dfA_t, df_r, dfB_nx, dfB_rt, dfB_ex, ba_v, ba_o, ba_n, nm_n, nm_v, nm_o, p_add, p_sub, p_mul, p_mod, p_fdiv, p_neg, p_int, p_intB, p_cmp, p_ixL, p_ixT, p_ixF, p_lenL, p_lenT, p_lenF, p_listT, p_listL, p_tupleL, p_tupleT, List.getElem?_cons_zero, List.getElem?_cons_succ, List.getElem?_nil, List.set_cons_zero, List.set_cons_succ, List.length_cons, List.length_nil, Option.map_some, Option.map_none, List.cons_append, List.nil_append, List.append_nil, Bool.and_true, Bool.true_and, Bool.or_true, Bool.true_or, Bool.and_false, Bool.false_and, Bool.or_false, Bool.false_or, Bool.not_true, Bool.not_false, decide_true, decide_false])) (by simp (config := { decide := false }) only [k1_ok, k1_ex, k1_no, ret_r, asF_r, asE_r, asI_r, asL_t, as_nil, as_e, as_l, isSet_r, isSet_v, isSet_o, fdR_s, fd_nil, fd_r, fd_l, fdL_v, fdL_o, prC_s, prB_s, prA_r, pr_r, gd_t, sl_r, slK_v, slK_o, k_r, tb_r, tbA_r, tC_s, tB_s, tA_r, t_r, noA_r, not_r, anA_t, anA_f, and_r, orA_t, orA_f, or_r, ifA_t, ifA_f, if_r, anV_t, anV_f, anU_r, andV_r, orV_t, orV_f, orU_r, orV_r, ntV_s, ntU_r, notV_r, tru_b, tru_i, tru_n, tru_t, tru_l, tru_f, free_r, free_u, free_v, free_o, asgK_t, asg_r, asgM_f, asgM_l, asgM_t, acK_s, ac_r, an_r, atL_t, atK_s, at_r, sq_t, sq_l, sq_f, nxK_s, setK_ok, setK_ex, set_r, seq_r, seqK_nx, seqK_rt, seqK_ro, seqK_bk, seqK_ct, seqK_ex, ifs_r, ifK_t, ifK_f, nx_r, bk_r, ct_r, rets_r, retK_ok, retK_ex, rs_r, rsK_v, rsK_o, retN_r, expr_r, exK_ok, exK_ex, crK_s, crL_ok, crL_ex, cr_r, nod_n, nod_1, call_r, ckA_r, callK_r, agR_s, ag_nil, ag_r, ag_l, agL_v, agL_o, ol_nil, ol_r, ol_l, olK_v, olK_o, bk_nil, bkr, bkl, bkK_v, bkK_o, si_r, siA_ok, siA_ex, siE_t, siB_ok, siC_s, siD_s, isOwn_r, isOwn_o, dfA_t, df_r, dfB_nx, dfB_rt, dfB_ex, ba_v, ba_o, ba_n, nm_n, nm_v, nm_o, p_add, p_sub, p_mul, p_mod, p_fdiv, p_neg, p_int, p_intB, p_cmp, p_ixL, p_ixT, p_ixF, p_lenL, p_lenT, p_lenF, p_listT, p_listL, p_tupleL, p_tupleT, List.getElem?_cons_zero, List.getElem?_cons_succ, List.getElem?_nil, List.set_cons_zero, List.set_cons_succ, List.length_cons, List.length_nil, Option.map_some, Option.map_none, List.cons_append, List.nil_append, List.append_nil, Bool.and_true, Bool.true_and, Bool.or_true, Bool.true_or, Bool.and_false, Bool.false_and, Bool.or_false, Bool.false_or, Bool.not_true, Bool.not_false, decide_true, decide_false]) (by show some _ = _; rw [k1])
  have b2 : ∀ s2, evSli (.late 0) (some (evSl 1)) (some (evK (.int 63))) [.v (.fls (ns.map .int)), .v (.int (m : Nat)), s2, .unk, .unk, .unk] = some (.ok ⟨.lst (ws.map .int), true⟩ [.v (.fls (ns.map .int)), .v (.int (m : Nat)), s2, .unk, .unk, .unk]) := fun s2 =>
    sli_r (rs := [.inl 0]) (d := .fls (ns.map .int)) (ρ1 := [.v (.fls (ns.map .int)), .v (.int (m : Nat)), s2, .unk, .unk, .unk]) (ρ2 := [.v (.fls (ns.map .int)), .v (.int (m : Nat)), s2, .unk, .unk, .unk]) (l := some (m : Nat)) (h := some 63) (by simp (config := { decide := false }) only [k1_ok, k1_ex, k1_no, ret_r, asF_r, asE_r, asI_r, asL_t, as_nil, as_e, as_l, isSet_r, isSet_v, isSet_o, fdR_s, fd_nil, fd_r, fd_l, fdL_v, fdL_o, prC_s, prB_s, prA_r, pr_r, gd_t, sl_r, slK_v, slK_o, k_r, tb_r, tbA_r, tC_s, tB_s, tA_r, t_r, noA_r, not_r, anA_t, anA_f, and_r, orA_t, orA_f, or_r, ifA_t, ifA_f, if_r, anV_t, anV_f, anU_r, andV_r, orV_t, orV_f, orU_r, orV_r, ntV_s, ntU_r, notV_r, tru_b, tru_i, tru_n, tru_t, tru_l, tru_f, free_r, free_u, free_v, free_o, asgK_t, asg_r, asgM_f, asgM_l, asgM_t, acK_s, ac_r, an_r, atL_t, atK_s, at_r, sq_t, sq_l, sq_f, nxK_s, setK_ok, setK_ex, set_r, seq_r, seqK_nx, seqK_rt, seqK_ro, seqK_bk, seqK_ct, seqK_ex, ifs_r, ifK_t, ifK_f, nx_r, bk_r, ct_r, rets_r, retK_ok, retK_ex, rs_r, rsK_v, rsK_o, retN_r, expr_r, exK_ok, exK_ex, crK_s, crL_ok, crL_ex, cr_r, nod_n, nod_1, call_r, ckA_r, callK_r, agR_s, ag_nil, ag_r, ag_l, agL_v, agL_o, ol_nil, ol_r, ol_l, olK_v, olK_o, bk_nil, bkr, bkl, bkK_v, bkK_o, si_r, siA_ok, siA_ex, siE_t, siB_ok, siC_s, siD_s, isOwn_r, isOwn_o, dfA_t, df_r, dfB_nx, dfB_rt, dfB_ex, ba_v, ba_o, ba_n, nm_n, nm_v, nm_o, p_add, p_sub, p_mul, p_mod, p_fdiv, p_neg, p_int, p_intB, p_cmp, p_ixL, p_ixT, p_ixF, p_lenL, p_lenT, p_lenF, p_listT, p_listL, p_tupleL, p_tupleT, List.getElem?_cons_zero, List.getElem?_cons_succ, List.getElem?_nil, List.set_cons_zero, List.set_cons_succ, List.length_cons, List.length_nil, Option.map_some, Option.map_none, List.cons_append, List.nil_append, List.append_nil, Bool.and_true, Bool.true_and, Bool.or_true, Bool.true_or, Bool.and_false, Bool.false_and, Bool.or_false, Bool.false_or, Bool.not_true, Bool.not_false, decide_true, decide_false]) (evO_s (fr := false) (by simp (config := { decide := false }) only [k1_ok, k1_ex, k1_no, ret_r, asF_r, asE_r, asI_r, asL_t, as_nil, as_e, as_l, isSet_r, isSet_v, isSet_o, fdR_s, fd_nil, fd_r, fd_l, fdL_v, fdL_o, prC_s, prB_s, prA_r, pr_r, gd_t, sl_r, slK_v, slK_o, k_r, tb_r, tbA_r, tC_s, tB_s, tA_r, t_r, noA_r, not_r, anA_t, anA_f, and_r, orA_t, orA_f, or_r, ifA_t, ifA_f, if_r, anV_t, anV_f, anU_r, andV_r, orV_t, orV_f, orU_r, orV_r, ntV_s, ntU_r, notV_r, tru_b, tru_i, tru_n, tru_t, tru_l, tru_f, free_r, free_u, free_v, free_o, asgK_t, asg_r, asgM_f, asgM_l, asgM_t, acK_s, ac_r, an_r, atL_t, atK_s, at_r, sq_t, sq_l, sq_f, nxK_s, setK_ok, setK_ex, set_r, seq_r, seqK_nx, seqK_rt, seqK_ro, seqK_bk, seqK_ct, seqK_ex, ifs_r, ifK_t, ifK_f, nx_r, bk_r, ct_r, rets_r, retK_ok, retK_ex, rs_r, rsK_v, rsK_o, retN_r, expr_r, exK_ok, exK_ex, crK_s, crL_ok, crL_ex, cr_r, nod_n, nod_1, call_r, ckA_r, callK_r, agR_s, ag_nil, ag_r, ag_l, agL_v, agL_o, ol_nil, ol_r, ol_l, olK_v, olK_o, bk_nil, bkr, bkl, bkK_v, bkK_o, si_r, siA_ok, siA_ex, siE_t, siB_ok, siC_s, siD_s, isOwn_r, isOwn_o, dfA_t, df_r, dfB_nx, dfB_rt, dfB_ex, ba_v, ba_o, ba_n, nm_n, nm_v, nm_o, p_add, p_sub, p_mul, p_mod, p_fdiv, p_neg, p_int, p_intB, p_cmp, p_ixL, p_ixT, p_ixF, p_lenL, p_lenT, p_lenF, p_listT, p_listL, p_tupleL, p_tupleT, List.getElem?_cons_zero, List.getElem?_cons_succ, List.getElem?_nil, List.set_cons_zero, List.set_cons_succ, List.length_cons, List.length_nil, Option.map_some, Option.map_none, List.cons_append, List.nil_append, List.append_nil, Bool.and_true, Bool.true_and, Bool.or_true, Bool.true_or, Bool.and_false, Bool.false_and, Bool.or_false, Bool.false_or, Bool.not_true, Bool.not_false, decide_true, decide_false])) (evO_s (fr := false) (by simp (config := { decide := false }) only [k1_ok, k1_ex, k1_no, ret_r, asF_r, asE_r, asI_r, asL_t, as_nil, as_e, as_l, isSet_r, isSet_v, isSet_o, fdR_s, fd_nil, fd_r, fd_l, fdL_v, fdL_o, prC_s, prB_s, prA_r, pr_r, gd_t, sl_r, slK_v, slK_o, k_r, tb_r, tbA_r, tC_s, tB_s, tA_r, t_r, noA_r, not_r, anA_t, anA_f, and_r, orA_t, orA_f, or_r, ifA_t, ifA_f, if_r, anV_t, anV_f, anU_r, andV_r, orV_t, orV_f, orU_r, orV_r, ntV_s, ntU_r, notV_r, tru_b, tru_i, tru_n, tru_t, tru_l, tru_f, free_r, free_u, free_v, free_o, asgK_t, asg_r, asgM_f, asgM_l, asgM_t, acK_s, ac_r, an_r, atL_t, atK_s, at_r, sq_t, sq_l, sq_f, nxK_s, setK_ok, setK_ex, set_r, seq_r, seqK_nx, seqK_rt, seqK_ro, seqK_bk, seqK_ct, seqK_ex, ifs_r, ifK_t, ifK_f, nx_r, bk_r, ct_r, rets_r, retK_ok, retK_ex, rs_r, rsK_v, rsK_o, retN_r, expr_r, exK_ok, exK_ex, crK_s, crL_ok, crL_ex, cr_r, nod_n, nod_1, call_r, ckA_r, callK_r, agR_s, ag_nil, ag_r, ag_l, agL_v, agL_o, ol_nil, ol_r, ol_l, olK_v, olK_o, bk_nil, bkr, bkl, bkK_v, bkK_o, si_r, siA_ok, siA_ex, siE_t, siB_ok, siC_s, siD_s, isOwn_r, isOwn_o, dfA_t, df_r, dfB_nx, dfB_rt, dfB_ex, ba_v, ba_o, ba_n, nm_n, nm_v, nm_o, p_add, p_sub, p_mul, p_mod, p_fdiv, p_neg, p_int, p_intB, p_cmp, p_ixL, p_ixT, p_ixF, p_lenL, p_lenT, p_lenF, p_listT, p_listL, p_tupleL, p_tupleT, List.getElem?_cons_zero, List.getElem?_cons_succ, List.getElem?_nil, List.set_cons_zero, List.set_cons_succ, List.length_cons, List.length_nil, Option.map_some, Option.map_none, List.cons_append, List.nil_append, List.append_nil, Bool.and_true, Bool.true_and, Bool.or_true, Bool.true_or, Bool.and_false, Bool.false_and, Bool.or_false, Bool.false_or, Bool.not_true, Bool.not_false, decide_true, decide_false])) (by simp (config := { decide := false }) only [k1_ok, k1_ex, k1_no, ret_r, asF_r, asE_r, asI_r, asL_t, as_nil, as_e, as_l, isSet_r, isSet_v, isSet_o, fdR_s, fd_nil, fd_r, fd_l, fdL_v, fdL_o, prC_s, prB_s, prA_r, pr_r, gd_t, sl_r, slK_v, slK_o, k_r, tb_r, tbA_r, tC_s, tB_s, tA_r, t_r, noA_r, not_r, anA_t, anA_f, and_r, orA_t, orA_f, or_r, ifA_t, ifA_f, if_r, anV_t, anV_f, anU_r, andV_r, orV_t, orV_f, orU_r, orV_r, ntV_s, ntU_r, notV_r, tru_b, tru_i, tru_n, tru_t, tru_l, tru_f, free_r, free_u, free_v, free_o, asgK_t, asg_r, asgM_f, asgM_l, asgM_t, acK_s, ac_r, an_r, atL_t, atK_s, at_r, sq_t, sq_l, sq_f, nxK_s, setK_ok, setK_ex, set_r, seq_r, seqK_nx, seqK_rt, seqK_ro, seqK_bk, seqK_ct, seqK_ex, ifs_r, ifK_t, ifK_f, nx_r, bk_r, ct_r, rets_r, retK_ok, retK_ex, rs_r, rsK_v, rsK_o, retN_r, expr_r, exK_ok, exK_ex, crK_s, crL_ok, crL_ex, cr_r, nod_n, nod_1, call_r, ckA_r, callK_r, agR_s, ag_nil, ag_r, ag_l, agL_v, agL_o, ol_nil, ol_r, ol_l, olK_v, olK_o, bk_nil, bkr, bkl, bkK_v, bkK_o, si_r, siA_ok, siA_ex, siE_t, siB_ok, siC_s, siD_s, isOwn_r, isOwn_o, dfA_t, df_r, dfB_nx, dfB_rt, dfB_ex, ba_v, ba_o, ba_n, nm_n, nm_v, nm_o, p_add, p_sub, p_mul, p_mod, p_fdiv, p_neg, p_int, p_intB, p_cmp, p_ixL, p_ixT, p_ixF, p_lenL, p_lenT, p_lenF, p_listT, p_listL, p_tupleL, p_tupleT, List.getElem?_cons_zero, List.getElem?_cons_succ, List.getElem?_nil, List.set_cons_zero, List.set_cons_succ, List.length_cons, List.length_nil, Option.map_some, Option.map_none, List.cons_append, List.nil_append, List.append_nil, Bool.and_true, Bool.true_and, Bool.or_true, Bool.true_or, Bool.and_false, Bool.false_and, Bool.or_false, Bool.false_or, Bool.not_true, Bool.not_false, decide_true, decide_false]) (by show some _ = _; rw [k2])
  have fi : ∀ s2, evItm gEn1 [.e (evSli (.late 0) (some (evSl 1)) (some (evK (.int 63))))] [.v (.fls (ns.map .int)), .v (.int (m : Nat)), s2, .unk, .unk, .unk] = some (.ok (enD 0 (ws.map .int), none) [.v (.fls (ns.map .int)), .v (.int (m : Nat)), s2, .unk, .unk, .unk]) := fun s2 =>
    itm_r (rs := [.inr (.lst (ws.map .int))]) (ds := [.lst (ws.map .int)]) (ρ' := [.v (.fls (ns.map .int)), .v (.int (m : Nat)), s2, .unk, .unk, .unk]) (by simp (config := { decide := false }) only [k1_ok, k1_ex, k1_no, ret_r, asF_r, asE_r, asI_r, asL_t, as_nil, as_e, as_l, isSet_r, isSet_v, isSet_o, fdR_s, fd_nil, fd_r, fd_l, fdL_v, fdL_o, prC_s, prB_s, prA_r, pr_r, gd_t, sl_r, slK_v, slK_o, k_r, tb_r, tbA_r, tC_s, tB_s, tA_r, t_r, noA_r, not_r, anA_t, anA_f, and_r, orA_t, orA_f, or_r, ifA_t, ifA_f, if_r, anV_t, anV_f, anU_r, andV_r, orV_t, orV_f, orU_r, orV_r, ntV_s, ntU_r, notV_r, tru_b, tru_i, tru_n, tru_t, tru_l, tru_f, free_r, free_u, free_v, free_o, asgK_t, asg_r, asgM_f, asgM_l, asgM_t, acK_s, ac_r, an_r, atL_t, atK_s, at_r, sq_t, sq_l, sq_f, nxK_s, setK_ok, setK_ex, set_r, seq_r, seqK_nx, seqK_rt, seqK_ro, seqK_bk, seqK_ct, seqK_ex, ifs_r, ifK_t, ifK_f, nx_r, bk_r, ct_r, rets_r, retK_ok, retK_ex, rs_r, rsK_v, rsK_o, retN_r, expr_r, exK_ok, exK_ex, crK_s, crL_ok, crL_ex, cr_r, nod_n, nod_1, call_r, ckA_r, callK_r, agR_s, ag_nil, ag_r, ag_l, agL_v, agL_o, ol_nil, ol_r, ol_l, olK_v, olK_o, bk_nil, bkr, bkl, bkK_v, bkK_o, si_r, siA_ok, siA_ex, siE_t, siB_ok, siC_s, siD_s, isOwn_r, isOwn_o, dfA_t, df_r, dfB_nx, dfB_rt, dfB_ex, ba_v, ba_o, ba_n, nm_n, nm_v, nm_o, p_add, p_sub, p_mul, p_mod, p_fdiv, p_neg, p_int, p_intB, p_cmp, p_ixL, p_ixT, p_ixF, p_lenL, p_lenT, p_lenF, p_listT, p_listL, p_tupleL, p_tupleT, List.getElem?_cons_zero, List.getElem?_cons_succ, List.getElem?_nil, List.set_cons_zero, List.set_cons_succ, List.length_cons, List.length_nil, Option.map_some, Option.map_none, List.cons_append, List.nil_append, List.append_nil, Bool.and_true, Bool.true_and, Bool.or_true, Bool.true_or, Bool.and_false, Bool.false_and, Bool.or_false, Bool.false_or, Bool.not_true, Bool.not_false, decide_true, decide_false, b2 s2]) (by simp (config := { decide := false }) only [k1_ok, k1_ex, k1_no, ret_r, asF_r, asE_r, asI_r, asL_t, as_nil, as_e, as_l, isSet_r, isSet_v, isSet_o, fdR_s, fd_nil, fd_r, fd_l, fdL_v, fdL_o, prC_s, prB_s, prA_r, pr_r, gd_t, sl_r, slK_v, slK_o, k_r, tb_r, tbA_r, tC_s, tB_s, tA_r, t_r, noA_r, not_r, anA_t, anA_f, and_r, orA_t, orA_f, or_r, ifA_t, ifA_f, if_r, anV_t, anV_f, anU_r, andV_r, orV_t, orV_f, orU_r, orV_r, ntV_s, ntU_r, notV_r, tru_b, tru_i, tru_n, tru_t, tru_l, tru_f, free_r, free_u, free_v, free_o, asgK_t, asg_r, asgM_f, asgM_l, asgM_t, acK_s, ac_r, an_r, atL_t, atK_s, at_r, sq_t, sq_l, sq_f, nxK_s, setK_ok, setK_ex, set_r, seq_r, seqK_nx, seqK_rt, seqK_ro, seqK_bk, seqK_ct, seqK_ex, ifs_r, ifK_t, ifK_f, nx_r, bk_r, ct_r, rets_r, retK_ok, retK_ex, rs_r, rsK_v, rsK_o, retN_r, expr_r, exK_ok, exK_ex, crK_s, crL_ok, crL_ex, cr_r, nod_n, nod_1, call_r, ckA_r, callK_r, agR_s, ag_nil, ag_r, ag_l, agL_v, agL_o, ol_nil, ol_r, ol_l, olK_v, olK_o, bk_nil, bkr, bkl, bkK_v, bkK_o, si_r, siA_ok, siA_ex, siE_t, siB_ok, siC_s, siD_s, isOwn_r, isOwn_o, dfA_t, df_r, dfB_nx, dfB_rt, dfB_ex, ba_v, ba_o, ba_n, nm_n, nm_v, nm_o, p_add, p_sub, p_mul, p_mod, p_fdiv, p_neg, p_int, p_intB, p_cmp, p_ixL, p_ixT, p_ixF, p_lenL, p_lenT, p_lenF, p_listT, p_listL, p_tupleL, p_tupleT, List.getElem?_cons_zero, List.getElem?_cons_succ, List.getElem?_nil, List.set_cons_zero, List.set_cons_succ, List.length_cons, List.length_nil, Option.map_some, Option.map_none, List.cons_append, List.nil_append, List.append_nil, Bool.and_true, Bool.true_and, Bool.or_true, Bool.true_or, Bool.and_false, Bool.false_and, Bool.or_false, Bool.false_or, Bool.not_true, Bool.not_false, decide_true, decide_false]) rfl
  have first : ∃ cs : List Int, 1 ≤ cs.length ∧ cs.length ≤ m ∧ (ws = [] ∨ cs.length = m) ∧ sSet (asgSl 2) (evOr (evPr gList [.e (evSli (.late 0) none (some (evSl 1)))]) (evPr gLst [.e (evK (.int (0)))])) [.v (.fls (ns.map .int)), .v (.int (m : Nat)), .unk, .unk, .unk, .unk] = some (.nx [.v (.fls (ns.map .int)), .v (.int (m : Nat)), .own 0 (cs.map .int), .unk, .unk, .unk]) := by
    have hl : ([.int 0] : List D).length ≤ LIM := by show 1 ≤ LIM; decide
    cases e : ns.take m with
    | nil =>
      have e2 : ns = [] := by
        cases ns with
        | nil => rfl
        | cons n ns => obtain ⟨m', rfl⟩ : ∃ m', m = m' + 1 := ⟨m - 1, by omega⟩; simp at e
      have hw : ws = [] := k4 (by rw [e2]; simp)
      rw [e] at b1
      have ee : (([] : List Int).map D.int).isEmpty = true := rfl
      refine ⟨[0], by decide, by simp; omega, .inl hw, ?_⟩
      simp (config := { decide := false }) only [k1_ok, k1_ex, k1_no, ret_r, asF_r, asE_r, asI_r, asL_t, as_nil, as_e, as_l, isSet_r, isSet_v, isSet_o, fdR_s, fd_nil, fd_r, fd_l, fdL_v, fdL_o, prC_s, prB_s, prA_r, pr_r, gd_t, sl_r, slK_v, slK_o, k_r, tb_r, tbA_r, tC_s, tB_s, tA_r, t_r, noA_r, not_r, anA_t, anA_f, and_r, orA_t, orA_f, or_r, ifA_t, ifA_f, if_r, anV_t, anV_f, anU_r, andV_r, orV_t, orV_f, orU_r, orV_r, ntV_s, ntU_r, notV_r, tru_b, tru_i, tru_n, tru_t, tru_l, tru_f, free_r, free_u, free_v, free_o, asgK_t, asg_r, asgM_f, asgM_l, asgM_t, acK_s, ac_r, an_r, atL_t, atK_s, at_r, sq_t, sq_l, sq_f, nxK_s, setK_ok, setK_ex, set_r, seq_r, seqK_nx, seqK_rt, seqK_ro, seqK_bk, seqK_ct, seqK_ex, ifs_r, ifK_t, ifK_f, nx_r, bk_r, ct_r, rets_r, retK_ok, retK_ex, rs_r, rsK_v, rsK_o, retN_r, expr_r, exK_ok, exK_ex, crK_s, crL_ok, crL_ex, cr_r, nod_n, nod_1, call_r, ckA_r, callK_r, agR_s, ag_nil, ag_r, ag_l, agL_v, agL_o, ol_nil, ol_r, ol_l, olK_v, olK_o, bk_nil, bkr, bkl, bkK_v, bkK_o, si_r, siA_ok, siA_ex, siE_t, siB_ok, siC_s, siD_s, isOwn_r, isOwn_o, dfA_t, df_r, dfB_nx, dfB_rt, dfB_ex, ba_v, ba_o, ba_n, nm_n, nm_v, nm_o, p_add, p_sub, p_mul, p_mod, p_fdiv, p_neg, p_int, p_intB, p_cmp, p_ixL, p_ixT, p_ixF, p_lenL, p_lenT, p_lenF, p_listT, p_listL, p_tupleL, p_tupleT, List.getElem?_cons_zero, List.getElem?_cons_succ, List.getElem?_nil, List.set_cons_zero, List.set_cons_succ, List.length_cons, List.length_nil, Option.map_some, Option.map_none, List.cons_append, List.nil_append, List.append_nil, Bool.and_true, Bool.true_and, Bool.or_true, Bool.true_or, Bool.and_false, Bool.false_and, Bool.or_false, Bool.false_or, Bool.not_true, Bool.not_false, decide_true, decide_false, b1, ee, p_lst hl]
      rfl
    | cons a as =>
      rw [e] at b1
      have ee : ((a :: as).map D.int).isEmpty = false := rfl
      have lt : (ns.take m).length = min m ns.length := List.length_take
      rw [e] at lt
      refine ⟨a :: as, by simp, by omega, ?_, ?_⟩
      · by_cases h : ns.length ≤ m
        · exact .inl (k4 h)
        · exact .inr (by omega)
      · simp (config := { decide := false }) only [k1_ok, k1_ex, k1_no, ret_r, asF_r, asE_r, asI_r, asL_t, as_nil, as_e, as_l, isSet_r, isSet_v, isSet_o, fdR_s, fd_nil, fd_r, fd_l, fdL_v, fdL_o, prC_s, prB_s, prA_r, pr_r, gd_t, sl_r, slK_v, slK_o, k_r, tb_r, tbA_r, tC_s, tB_s, tA_r, t_r, noA_r, not_r, anA_t, anA_f, and_r, orA_t, orA_f, or_r, ifA_t, ifA_f, if_r, anV_t, anV_f, anU_r, andV_r, orV_t, orV_f, orU_r, orV_r, ntV_s, ntU_r, notV_r, tru_b, tru_i, tru_n, tru_t, tru_l, tru_f, free_r, free_u, free_v, free_o, asgK_t, asg_r, asgM_f, asgM_l, asgM_t, acK_s, ac_r, an_r, atL_t, atK_s, at_r, sq_t, sq_l, sq_f, nxK_s, setK_ok, setK_ex, set_r, seq_r, seqK_nx, seqK_rt, seqK_ro, seqK_bk, seqK_ct, seqK_ex, ifs_r, ifK_t, ifK_f, nx_r, bk_r, ct_r, rets_r, retK_ok, retK_ex, rs_r, rsK_v, rsK_o, retN_r, expr_r, exK_ok, exK_ex, crK_s, crL_ok, crL_ex, cr_r, nod_n, nod_1, call_r, ckA_r, callK_r, agR_s, ag_nil, ag_r, ag_l, agL_v, agL_o, ol_nil, ol_r, ol_l, olK_v, olK_o, bk_nil, bkr, bkl, bkK_v, bkK_o, si_r, siA_ok, siA_ex, siE_t, siB_ok, siC_s, siD_s, isOwn_r, isOwn_o, dfA_t, df_r, dfB_nx, dfB_rt, dfB_ex, ba_v, ba_o, ba_n, nm_n, nm_v, nm_o, p_add, p_sub, p_mul, p_mod, p_fdiv, p_neg, p_int, p_intB, p_cmp, p_ixL, p_ixT, p_ixF, p_lenL, p_lenT, p_lenF, p_listT, p_listL, p_tupleL, p_tupleT, List.getElem?_cons_zero, List.getElem?_cons_succ, List.getElem?_nil, List.set_cons_zero, List.set_cons_succ, List.length_cons, List.length_nil, Option.map_some, Option.map_none, List.cons_append, List.nil_append, List.append_nil, Bool.and_true, Bool.true_and, Bool.or_true, Bool.true_or, Bool.and_false, Bool.false_and, Bool.or_false, Bool.false_or, Bool.not_true, Bool.not_false, decide_true, decide_false, b1, ee]
  obtain ⟨cs, c1, c2, c3, e1⟩ := first
  have loop : ∃ (cs' : List Int) (s3 s4 s5 : Slot), cs'.length = cs.length ∧ evFor (asgTup 2 (asgCons (asgSl 3) (asgCons (asgSl 4) asgNil))) cBody (enD 0 (ws.map .int)) [.v (.fls (ns.map .int)), .v (.int (m : Nat)), .own 0 (cs.map .int), .unk, .unk, .unk] = some (.nx [.v (.fls (ns.map .int)), .v (.int (m : Nat)), .own 0 (cs'.map .int), s3, s4, s5]) := by
    rcases c3 with c3 | c3
    · subst c3
      exact ⟨cs, .unk, .unk, .unk, rfl, rfl⟩
    · exact cells_for (by omega) ws 0 cs .unk .unk .unk (by omega) (by decide) (by omega) rfl rfl rfl
  obtain ⟨cs', s3, s4, s5, l, e2⟩ := loop
  refine ⟨cs', by omega, by omega, ?_⟩
  have e3 : sFor (evItm gEn1 [.e (evSli (.late 0) (some (evSl 1)) (some (evK (.int (63)))))]) (asgTup 2 (asgCons (asgSl 3) (asgCons (asgSl 4) asgNil))) cBody [.v (.fls (ns.map .int)), .v (.int (m : Nat)), .own 0 (cs.map .int), .unk, .unk, .unk] = _ := (for_r (fi _)).trans e2
  unfold tCells
  have e4 : (sSeq (sSet (asgSl 5) (evPr gMod [.e (evPr gInt [.late 3]), .late 1])) (sSetIx 2 (evSl 5) (evPr gAdd [.e (evPr gIx [.late 2, .late 5]), .e (evPr gMul [.late 4, .e (evPr gAdd [.late 3, .e (evK (.int (2)))])])]))) = cBody := rfl
  rw [e4]
  generalize hA : sSet (asgSl 2) _ = A at e1 ⊢
  generalize hB : sFor (evItm gEn1 _) _ cBody = B at e3 ⊢
  simp (config := { decide := false }) only [k1_ok, k1_ex, k1_no, ret_r, asF_r, asE_r, asI_r, asL_t, as_nil, as_e, as_l, isSet_r, isSet_v, isSet_o, fdR_s, fd_nil, fd_r, fd_l, fdL_v, fdL_o, prC_s, prB_s, prA_r, pr_r, gd_t, sl_r, slK_v, slK_o, k_r, tb_r, tbA_r, tC_s, tB_s, tA_r, t_r, noA_r, not_r, anA_t, anA_f, and_r, orA_t, orA_f, or_r, ifA_t, ifA_f, if_r, anV_t, anV_f, anU_r, andV_r, orV_t, orV_f, orU_r, orV_r, ntV_s, ntU_r, notV_r, tru_b, tru_i, tru_n, tru_t, tru_l, tru_f, free_r, free_u, free_v, free_o, asgK_t, asg_r, asgM_f, asgM_l, asgM_t, acK_s, ac_r, an_r, atL_t, atK_s, at_r, sq_t, sq_l, sq_f, nxK_s, setK_ok, setK_ex, set_r, seq_r, seqK_nx, seqK_rt, seqK_ro, seqK_bk, seqK_ct, seqK_ex, ifs_r, ifK_t, ifK_f, nx_r, bk_r, ct_r, rets_r, retK_ok, retK_ex, rs_r, rsK_v, rsK_o, retN_r, expr_r, exK_ok, exK_ex, crK_s, crL_ok, crL_ex, cr_r, nod_n, nod_1, call_r, ckA_r, callK_r, agR_s, ag_nil, ag_r, ag_l, agL_v, agL_o, ol_nil, ol_r, ol_l, olK_v, olK_o, bk_nil, bkr, bkl, bkK_v, bkK_o, si_r, siA_ok, siA_ex, siE_t, siB_ok, siC_s, siD_s, isOwn_r, isOwn_o, dfA_t, df_r, dfB_nx, dfB_rt, dfB_ex, ba_v, ba_o, ba_n, nm_n, nm_v, nm_o, p_add, p_sub, p_mul, p_mod, p_fdiv, p_neg, p_int, p_intB, p_cmp, p_ixL, p_ixT, p_ixF, p_lenL, p_lenT, p_lenF, p_listT, p_listL, p_tupleL, p_tupleT, List.getElem?_cons_zero, List.getElem?_cons_succ, List.getElem?_nil, List.set_cons_zero, List.set_cons_succ, List.length_cons, List.length_nil, Option.map_some, Option.map_none, List.cons_append, List.nil_append, List.append_nil, Bool.and_true, Bool.true_and, Bool.or_true, Bool.true_or, Bool.and_false, Bool.false_and, Bool.or_false, Bool.false_or, Bool.not_true, Bool.not_false, decide_true, decide_false, List.replicate, Nat.beq, Nat.reduceAdd, e1, e3]
  rw [dfB_ro (ds := cs'.map .int) rfl]
  rfl
end L3

/-! M7: the program: the last factor, the joins with their ends. -/
namespace L3
open PySem L2
/-- a grouping as the program gets it: pairs are tuples or lists -/
inductive IsTr : D → Tr → Prop
  | leaf (i : Int) : IsTr (.int i) (.leaf i)
  | tup {a b : D} {l r : Tr} : IsTr a l → IsTr b r → IsTr (.tup [a, b]) (.node l r)
  | lst {a b : D} {l r : Tr} : IsTr a l → IsTr b r → IsTr (.lst [a, b]) (.node l r)
theorem isTr_d : ∀ t : Tr, IsTr t.d t
  | .leaf i => .leaf i
  | .node l r => .tup (isTr_d l) (isTr_d r)
theorem isTr_soft : ∀ t : Tr, IsTr t.soft t
  | .leaf i => .leaf i
  | .node l r => .lst (isTr_soft l) (isTr_soft r)
theorem isiII {i : Int} : gIsi [.int] [.int i] = some ⟨.bl true, false⟩ := rfl
theorem isiIT {ds : List D} : gIsi [.int] [.tup ds] = some ⟨.bl false, false⟩ := rfl
theorem isiIL {ds : List D} : gIsi [.int] [.lst ds] = some ⟨.bl false, false⟩ := rfl
def tLast : EvS :=
  sSeq (sWhile (evNotT (evT (.e (evPr (gIsi [.int]) [.late 0]))))
    (sSet (asgSl 0) (evPr gIx [.late 0, .e (evK (.int (1)))])) FUEL)
  (sRetSl 0)
theorem last_w : ∀ {d : D} {t : Tr} (n : Nat), IsTr d t → t.dep < n → sWhile (evNotT (evT (.e (evPr (gIsi [.int]) [.late 0])))) (sSet (asgSl 0) (evPr gIx [.late 0, .e (evK (.int (1)))])) n [.v d] = some (.nx [.v (.int t.lst)])
  | _, _, n + 1, .leaf i, _ => wh_f (by simp only [Tr.lst]; simp (config := { decide := false }) only [k1_ok, k1_ex, k1_no, ret_r, asF_r, asE_r, asI_r, asL_t, as_nil, as_e, as_l, isSet_r, isSet_v, isSet_o, fdR_s, fd_nil, fd_r, fd_l, fdL_v, fdL_o, prC_s, prB_s, prA_r, pr_r, gd_t, sl_r, slK_v, slK_o, k_r, tb_r, tbA_r, tC_s, tB_s, tA_r, t_r, noA_r, not_r, anA_t, anA_f, and_r, orA_t, orA_f, or_r, ifA_t, ifA_f, if_r, anV_t, anV_f, anU_r, andV_r, orV_t, orV_f, orU_r, orV_r, ntV_s, ntU_r, notV_r, tru_b, tru_i, tru_n, tru_t, tru_l, tru_f, free_r, free_u, free_v, free_o, asgK_t, asg_r, asgM_f, asgM_l, asgM_t, acK_s, ac_r, an_r, atL_t, atK_s, at_r, sq_t, sq_l, sq_f, nxK_s, setK_ok, setK_ex, set_r, seq_r, seqK_nx, seqK_rt, seqK_ro, seqK_bk, seqK_ct, seqK_ex, ifs_r, ifK_t, ifK_f, nx_r, bk_r, ct_r, rets_r, retK_ok, retK_ex, rs_r, rsK_v, rsK_o, retN_r, expr_r, exK_ok, exK_ex, crK_s, crL_ok, crL_ex, cr_r, nod_n, nod_1, call_r, ckA_r, callK_r, agR_s, ag_nil, ag_r, ag_l, agL_v, agL_o, ol_nil, ol_r, ol_l, olK_v, olK_o, bk_nil, bkr, bkl, bkK_v, bkK_o, si_r, siA_ok, siA_ex, siE_t, siB_ok, siC_s, siD_s, isOwn_r, isOwn_o, dfA_t, df_r, dfB_nx, dfB_rt, dfB_ex, ba_v, ba_o, ba_n, nm_n, nm_v, nm_o, p_add, p_sub, p_mul, p_mod, p_fdiv, p_neg, p_int, p_intB, p_cmp, p_ixL, p_ixT, p_ixF, p_lenL, p_lenT, p_lenF, p_listT, p_listL, p_tupleL, p_tupleT, List.getElem?_cons_zero, List.getElem?_cons_succ, List.getElem?_nil, List.set_cons_zero, List.set_cons_succ, List.length_cons, List.length_nil, Option.map_some, Option.map_none, List.cons_append, List.nil_append, List.append_nil, Bool.and_true, Bool.true_and, Bool.or_true, Bool.true_or, Bool.and_false, Bool.false_and, Bool.or_false, Bool.false_or, Bool.not_true, Bool.not_false, decide_true, decide_false, isiII])
  | _, _, n + 1, .tup (a := a) (b := b) (l := l) (r := r) ha hb, h => by
    rw [wh_t (ρ' := [.v (.tup [a, b])]) (ρ2 := [.v b]) (by simp (config := { decide := false }) only [k1_ok, k1_ex, k1_no, ret_r, asF_r, asE_r, asI_r, asL_t, as_nil, as_e, as_l, isSet_r, isSet_v, isSet_o, fdR_s, fd_nil, fd_r, fd_l, fdL_v, fdL_o, prC_s, prB_s, prA_r, pr_r, gd_t, sl_r, slK_v, slK_o, k_r, tb_r, tbA_r, tC_s, tB_s, tA_r, t_r, noA_r, not_r, anA_t, anA_f, and_r, orA_t, orA_f, or_r, ifA_t, ifA_f, if_r, anV_t, anV_f, anU_r, andV_r, orV_t, orV_f, orU_r, orV_r, ntV_s, ntU_r, notV_r, tru_b, tru_i, tru_n, tru_t, tru_l, tru_f, free_r, free_u, free_v, free_o, asgK_t, asg_r, asgM_f, asgM_l, asgM_t, acK_s, ac_r, an_r, atL_t, atK_s, at_r, sq_t, sq_l, sq_f, nxK_s, setK_ok, setK_ex, set_r, seq_r, seqK_nx, seqK_rt, seqK_ro, seqK_bk, seqK_ct, seqK_ex, ifs_r, ifK_t, ifK_f, nx_r, bk_r, ct_r, rets_r, retK_ok, retK_ex, rs_r, rsK_v, rsK_o, retN_r, expr_r, exK_ok, exK_ex, crK_s, crL_ok, crL_ex, cr_r, nod_n, nod_1, call_r, ckA_r, callK_r, agR_s, ag_nil, ag_r, ag_l, agL_v, agL_o, ol_nil, ol_r, ol_l, olK_v, olK_o, bk_nil, bkr, bkl, bkK_v, bkK_o, si_r, siA_ok, siA_ex, siE_t, siB_ok, siC_s, siD_s, isOwn_r, isOwn_o, dfA_t, df_r, dfB_nx, dfB_rt, dfB_ex, ba_v, ba_o, ba_n, nm_n, nm_v, nm_o, p_add, p_sub, p_mul, p_mod, p_fdiv, p_neg, p_int, p_intB, p_cmp, p_ixL, p_ixT, p_ixF, p_lenL, p_lenT, p_lenF, p_listT, p_listL, p_tupleL, p_tupleT, List.getElem?_cons_zero, List.getElem?_cons_succ, List.getElem?_nil, List.set_cons_zero, List.set_cons_succ, List.length_cons, List.length_nil, Option.map_some, Option.map_none, List.cons_append, List.nil_append, List.append_nil, Bool.and_true, Bool.true_and, Bool.or_true, Bool.true_or, Bool.and_false, Bool.false_and, Bool.or_false, Bool.false_or, Bool.not_true, Bool.not_false, decide_true, decide_false, isiIT]) (by simp (config := { decide := false }) only [k1_ok, k1_ex, k1_no, ret_r, asF_r, asE_r, asI_r, asL_t, as_nil, as_e, as_l, isSet_r, isSet_v, isSet_o, fdR_s, fd_nil, fd_r, fd_l, fdL_v, fdL_o, prC_s, prB_s, prA_r, pr_r, gd_t, sl_r, slK_v, slK_o, k_r, tb_r, tbA_r, tC_s, tB_s, tA_r, t_r, noA_r, not_r, anA_t, anA_f, and_r, orA_t, orA_f, or_r, ifA_t, ifA_f, if_r, anV_t, anV_f, anU_r, andV_r, orV_t, orV_f, orU_r, orV_r, ntV_s, ntU_r, notV_r, tru_b, tru_i, tru_n, tru_t, tru_l, tru_f, free_r, free_u, free_v, free_o, asgK_t, asg_r, asgM_f, asgM_l, asgM_t, acK_s, ac_r, an_r, atL_t, atK_s, at_r, sq_t, sq_l, sq_f, nxK_s, setK_ok, setK_ex, set_r, seq_r, seqK_nx, seqK_rt, seqK_ro, seqK_bk, seqK_ct, seqK_ex, ifs_r, ifK_t, ifK_f, nx_r, bk_r, ct_r, rets_r, retK_ok, retK_ex, rs_r, rsK_v, rsK_o, retN_r, expr_r, exK_ok, exK_ex, crK_s, crL_ok, crL_ex, cr_r, nod_n, nod_1, call_r, ckA_r, callK_r, agR_s, ag_nil, ag_r, ag_l, agL_v, agL_o, ol_nil, ol_r, ol_l, olK_v, olK_o, bk_nil, bkr, bkl, bkK_v, bkK_o, si_r, siA_ok, siA_ex, siE_t, siB_ok, siC_s, siD_s, isOwn_r, isOwn_o, dfA_t, df_r, dfB_nx, dfB_rt, dfB_ex, ba_v, ba_o, ba_n, nm_n, nm_v, nm_o, p_add, p_sub, p_mul, p_mod, p_fdiv, p_neg, p_int, p_intB, p_cmp, p_ixL, p_ixT, p_ixF, p_lenL, p_lenT, p_lenF, p_listT, p_listL, p_tupleL, p_tupleT, List.getElem?_cons_zero, List.getElem?_cons_succ, List.getElem?_nil, List.set_cons_zero, List.set_cons_succ, List.length_cons, List.length_nil, Option.map_some, Option.map_none, List.cons_append, List.nil_append, List.append_nil, Bool.and_true, Bool.true_and, Bool.or_true, Bool.true_or, Bool.and_false, Bool.false_and, Bool.or_false, Bool.false_or, Bool.not_true, Bool.not_false, decide_true, decide_false, at1])]
    exact last_w (t := r) n hb (by simp only [Tr.dep] at h; omega)
  | _, _, n + 1, .lst (a := a) (b := b) (l := l) (r := r) ha hb, h => by
    rw [wh_t (ρ' := [.v (.lst [a, b])]) (ρ2 := [.v b]) (by simp (config := { decide := false }) only [k1_ok, k1_ex, k1_no, ret_r, asF_r, asE_r, asI_r, asL_t, as_nil, as_e, as_l, isSet_r, isSet_v, isSet_o, fdR_s, fd_nil, fd_r, fd_l, fdL_v, fdL_o, prC_s, prB_s, prA_r, pr_r, gd_t, sl_r, slK_v, slK_o, k_r, tb_r, tbA_r, tC_s, tB_s, tA_r, t_r, noA_r, not_r, anA_t, anA_f, and_r, orA_t, orA_f, or_r, ifA_t, ifA_f, if_r, anV_t, anV_f, anU_r, andV_r, orV_t, orV_f, orU_r, orV_r, ntV_s, ntU_r, notV_r, tru_b, tru_i, tru_n, tru_t, tru_l, tru_f, free_r, free_u, free_v, free_o, asgK_t, asg_r, asgM_f, asgM_l, asgM_t, acK_s, ac_r, an_r, atL_t, atK_s, at_r, sq_t, sq_l, sq_f, nxK_s, setK_ok, setK_ex, set_r, seq_r, seqK_nx, seqK_rt, seqK_ro, seqK_bk, seqK_ct, seqK_ex, ifs_r, ifK_t, ifK_f, nx_r, bk_r, ct_r, rets_r, retK_ok, retK_ex, rs_r, rsK_v, rsK_o, retN_r, expr_r, exK_ok, exK_ex, crK_s, crL_ok, crL_ex, cr_r, nod_n, nod_1, call_r, ckA_r, callK_r, agR_s, ag_nil, ag_r, ag_l, agL_v, agL_o, ol_nil, ol_r, ol_l, olK_v, olK_o, bk_nil, bkr, bkl, bkK_v, bkK_o, si_r, siA_ok, siA_ex, siE_t, siB_ok, siC_s, siD_s, isOwn_r, isOwn_o, dfA_t, df_r, dfB_nx, dfB_rt, dfB_ex, ba_v, ba_o, ba_n, nm_n, nm_v, nm_o, p_add, p_sub, p_mul, p_mod, p_fdiv, p_neg, p_int, p_intB, p_cmp, p_ixL, p_ixT, p_ixF, p_lenL, p_lenT, p_lenF, p_listT, p_listL, p_tupleL, p_tupleT, List.getElem?_cons_zero, List.getElem?_cons_succ, List.getElem?_nil, List.set_cons_zero, List.set_cons_succ, List.length_cons, List.length_nil, Option.map_some, Option.map_none, List.cons_append, List.nil_append, List.append_nil, Bool.and_true, Bool.true_and, Bool.or_true, Bool.true_or, Bool.and_false, Bool.false_and, Bool.or_false, Bool.false_or, Bool.not_true, Bool.not_false, decide_true, decide_false, isiIL]) (by simp (config := { decide := false }) only [k1_ok, k1_ex, k1_no, ret_r, asF_r, asE_r, asI_r, asL_t, as_nil, as_e, as_l, isSet_r, isSet_v, isSet_o, fdR_s, fd_nil, fd_r, fd_l, fdL_v, fdL_o, prC_s, prB_s, prA_r, pr_r, gd_t, sl_r, slK_v, slK_o, k_r, tb_r, tbA_r, tC_s, tB_s, tA_r, t_r, noA_r, not_r, anA_t, anA_f, and_r, orA_t, orA_f, or_r, ifA_t, ifA_f, if_r, anV_t, anV_f, anU_r, andV_r, orV_t, orV_f, orU_r, orV_r, ntV_s, ntU_r, notV_r, tru_b, tru_i, tru_n, tru_t, tru_l, tru_f, free_r, free_u, free_v, free_o, asgK_t, asg_r, asgM_f, asgM_l, asgM_t, acK_s, ac_r, an_r, atL_t, atK_s, at_r, sq_t, sq_l, sq_f, nxK_s, setK_ok, setK_ex, set_r, seq_r, seqK_nx, seqK_rt, seqK_ro, seqK_bk, seqK_ct, seqK_ex, ifs_r, ifK_t, ifK_f, nx_r, bk_r, ct_r, rets_r, retK_ok, retK_ex, rs_r, rsK_v, rsK_o, retN_r, expr_r, exK_ok, exK_ex, crK_s, crL_ok, crL_ex, cr_r, nod_n, nod_1, call_r, ckA_r, callK_r, agR_s, ag_nil, ag_r, ag_l, agL_v, agL_o, ol_nil, ol_r, ol_l, olK_v, olK_o, bk_nil, bkr, bkl, bkK_v, bkK_o, si_r, siA_ok, siA_ex, siE_t, siB_ok, siC_s, siD_s, isOwn_r, isOwn_o, dfA_t, df_r, dfB_nx, dfB_rt, dfB_ex, ba_v, ba_o, ba_n, nm_n, nm_v, nm_o, p_add, p_sub, p_mul, p_mod, p_fdiv, p_neg, p_int, p_intB, p_cmp, p_ixL, p_ixT, p_ixF, p_lenL, p_lenT, p_lenF, p_listT, p_listL, p_tupleL, p_tupleT, List.getElem?_cons_zero, List.getElem?_cons_succ, List.getElem?_nil, List.set_cons_zero, List.set_cons_succ, List.length_cons, List.length_nil, Option.map_some, Option.map_none, List.cons_append, List.nil_append, List.append_nil, Bool.and_true, Bool.true_and, Bool.or_true, Bool.true_or, Bool.and_false, Bool.false_and, Bool.or_false, Bool.false_or, Bool.not_true, Bool.not_false, decide_true, decide_false, at1])]
    exact last_w (t := r) n hb (by simp only [Tr.dep] at h; omega)
def LastOk (fe : Ev R) : Prop := ∀ d t, IsTr d t → t.dep < 1000 → fe [.v d] = some (.ok ⟨.int t.lst, false⟩ [.v d])
theorem last_ok : LastOk (defEv 1 0 tLast) := by
  intro d t h hd
  have hF : t.dep < FUEL := Nat.lt_of_lt_of_le hd (by decide)
  unfold tLast
  simp (config := { decide := false }) only [k1_ok, k1_ex, k1_no, ret_r, asF_r, asE_r, asI_r, asL_t, as_nil, as_e, as_l, isSet_r, isSet_v, isSet_o, fdR_s, fd_nil, fd_r, fd_l, fdL_v, fdL_o, prC_s, prB_s, prA_r, pr_r, gd_t, sl_r, slK_v, slK_o, k_r, tb_r, tbA_r, tC_s, tB_s, tA_r, t_r, noA_r, not_r, anA_t, anA_f, and_r, orA_t, orA_f, or_r, ifA_t, ifA_f, if_r, anV_t, anV_f, anU_r, andV_r, orV_t, orV_f, orU_r, orV_r, ntV_s, ntU_r, notV_r, tru_b, tru_i, tru_n, tru_t, tru_l, tru_f, free_r, free_u, free_v, free_o, asgK_t, asg_r, asgM_f, asgM_l, asgM_t, acK_s, ac_r, an_r, atL_t, atK_s, at_r, sq_t, sq_l, sq_f, nxK_s, setK_ok, setK_ex, set_r, seq_r, seqK_nx, seqK_rt, seqK_ro, seqK_bk, seqK_ct, seqK_ex, ifs_r, ifK_t, ifK_f, nx_r, bk_r, ct_r, rets_r, retK_ok, retK_ex, rs_r, rsK_v, rsK_o, retN_r, expr_r, exK_ok, exK_ex, crK_s, crL_ok, crL_ex, cr_r, nod_n, nod_1, call_r, ckA_r, callK_r, agR_s, ag_nil, ag_r, ag_l, agL_v, agL_o, ol_nil, ol_r, ol_l, olK_v, olK_o, bk_nil, bkr, bkl, bkK_v, bkK_o, si_r, siA_ok, siA_ex, siE_t, siB_ok, siC_s, siD_s, isOwn_r, isOwn_o, dfA_t, df_r, dfB_nx, dfB_rt, dfB_ex, ba_v, ba_o, ba_n, nm_n, nm_v, nm_o, p_add, p_sub, p_mul, p_mod, p_fdiv, p_neg, p_int, p_intB, p_cmp, p_ixL, p_ixT, p_ixF, p_lenL, p_lenT, p_lenF, p_listT, p_listL, p_tupleL, p_tupleT, List.getElem?_cons_zero, List.getElem?_cons_succ, List.getElem?_nil, List.set_cons_zero, List.set_cons_succ, List.length_cons, List.length_nil, Option.map_some, Option.map_none, List.cons_append, List.nil_append, List.append_nil, Bool.and_true, Bool.true_and, Bool.or_true, Bool.true_or, Bool.and_false, Bool.false_and, Bool.or_false, Bool.false_or, Bool.not_true, Bool.not_false, decide_true, decide_false, List.replicate, Nat.beq, Nat.reduceAdd, last_w FUEL h hF]
def tJoins (last : Ev R) : EvS :=
  sSeq (sSet (asgSl 1) (evPr gLst []))
  (sSeq (sSet (asgSl 2) (evPr gLst [.e (evPr gTup [.e (evSl 0), .e (evK (.int (1))), .e (evCall last [.e (evSl 0)])])]))
  (sSeq (sWhile (evT (.late 2))
    (sSeq (sSet (asgTup 3 (asgCons (asgSl 3) (asgCons (asgSl 4) (asgCons (asgSl 5) asgNil)))) (evPop 2))
    (sIf (evNotT (evT (.e (evPr (gIsi [.int]) [.late 3]))))
      (sSeq (sSet (asgTup 2 (asgCons (asgSl 6) (asgCons (asgSl 7) asgNil))) (evSl 3))
      (sSeq (sSet (asgSl 8) (evCall last [.e (evSl 6)]))
      (sSeq (sExpr (evAppend 1 (evPr gTup [.e (evSl 8), .e (evSl 4), .e (evSl 5)])))
      (sSeq (sExpr (evAppend 2 (evPr gTup [.e (evSl 6), .e (evSl 4), .e (evSl 8)])))
      (sExpr (evAppend 2 (evPr gTup [.e (evSl 7), .e (evPr gAdd [.late 8, .e (evK (.int (1)))]), .e (evSl 5)])))))))
      (sNx))) FUEL)
  (sRet (evPr gSorted [.late 1]))))

def Tr.size : Tr → Nat
  | .leaf _ => 1
  | .node l r => l.size + r.size + 1
theorem Tr.dep_lt : ∀ t : Tr, t.dep < t.size
  | .leaf _ => by simp only [Tr.dep, Tr.size]; omega
  | .node l r => by have := l.dep_lt; have := r.dep_lt; simp only [Tr.dep, Tr.size]; omega
/-- what stands on the stack: a part, its first and its last factor -/
structure Wt where
  d : D
  t : Tr
  a : Int
  b : Int
def Wt.dd (w : Wt) : D := .tup [w.d, .int w.a, .int w.b]
def Wt.ok (w : Wt) : Prop := IsTr w.d w.t ∧ Grp w.a w.b w.t ∧ w.t.dep < 1000
def cnt (W : List Wt) : Nat := (W.map fun w => w.t.size).sum
/-- join, start, reach -/
def Tr.jo (t : Tr) : List (List Int) := t.joins.map fun p => [p.2.1, p.1, p.2.2]
abbrev jT : Ev Bool := evT (.late 2)
abbrev jB (last : Ev R) : EvS := (sSeq (sSet (asgTup 3 (asgCons (asgSl 3) (asgCons (asgSl 4) (asgCons (asgSl 5) asgNil)))) (evPop 2))
    (sIf (evNotT (evT (.e (evPr (gIsi [.int]) [.late 3]))))
      (sSeq (sSet (asgTup 2 (asgCons (asgSl 6) (asgCons (asgSl 7) asgNil))) (evSl 3))
      (sSeq (sSet (asgSl 8) (evCall last [.e (evSl 6)]))
      (sSeq (sExpr (evAppend 1 (evPr gTup [.e (evSl 8), .e (evSl 4), .e (evSl 5)])))
      (sSeq (sExpr (evAppend 2 (evPr gTup [.e (evSl 6), .e (evSl 4), .e (evSl 8)])))
      (sExpr (evAppend 2 (evPr gTup [.e (evSl 7), .e (evPr gAdd [.late 8, .e (evK (.int (1)))]), .e (evSl 5)])))))))
      (sNx)))
def fr6 (s3 s4 s5 s6 s7 s8 : Slot) : Prop := freeK (some s3) = true ∧ freeK (some s4) = true ∧ freeK (some s5) = true ∧ freeK (some s6) = true ∧ freeK (some s7) = true ∧ freeK (some s8) = true
def apC (i : Nat) (d : D) (ρ : Sls) (k : Nat) (ds : List D) : Bool → Option (Out R)
  | true => some (.ok ⟨.non, false⟩ (ρ.set i (.own k (ds ++ [d]))))
  | false => none
theorem apC_t {i k : Nat} {d : D} {ρ : Sls} {ds : List D} : apC i d ρ k ds true = some (.ok ⟨.non, false⟩ (ρ.set i (.own k (ds ++ [d])))) := rfl
def apB (i : Nat) (d : D) (ρ : Sls) : Option Slot → Option (Out R)
  | some (.own k ds) => apC i d ρ k ds (mutable k && Nat.blt ds.length LIM)
  | _ => none
theorem apB_s {i k : Nat} {d : D} {ρ : Sls} {ds : List D} : apB i d ρ (some (.own k ds)) = apC i d ρ k ds (mutable k && Nat.blt ds.length LIM) := rfl
def apA (i : Nat) : Bool → Option (Out R) → Option (Out R)
  | true, some (.ok r ρ) => apB i r.d ρ ρ[i]?
  | true, some (.ex e ρ) => some (.ex e ρ)
  | _, _ => none
theorem apA_ok {i : Nat} {r : R} {ρ : Sls} : apA i true (some (.ok r ρ)) = apB i r.d ρ ρ[i]? := rfl
theorem ap_r {i : Nat} {f : Ev R} {ρ : Sls} : evAppend i f ρ = apA i (isOwn ρ i) (f ρ) := by
  unfold evAppend
  cases isOwn ρ i with
  | false => rfl
  | true =>
    show (f.bind _) ρ = _
    unfold Ev.bind
    cases f ρ with
    | none => rfl
    | some o => cases o with
      | ex e ρ' => rfl
      | ok r ρ' =>
        show _ = apB i r.d ρ' ρ'[i]?
        dsimp only
        generalize ρ'[i]? = o
        cases o with
        | none => rfl
        | some s => cases s with
          | own k ds =>
            show _ = apC i r.d ρ' k ds (mutable k && Nat.blt ds.length LIM)
            dsimp only
            generalize (mutable k && Nat.blt ds.length LIM) = b
            cases b <;> rfl
          | _ => rfl
theorem joins_step {last : Ev R} (L : LastOk last) {d0 : D} {F : List (List Int)} {W : List Wt} {w : Wt} {s3 s4 s5 s6 s7 s8 : Slot} (f : fr6 s3 s4 s5 s6 s7 s8) (hw : w.ok) (h1 : F.length < 1000000) (h2 : W.length < 1000000) :
    ∃ (F' : List (List Int)) (W' : List Wt) (s3' s4' s5' s6' s7' s8' : Slot), fr6 s3' s4' s5' s6' s7' s8' ∧ (∀ x ∈ W', x.ok) ∧ cnt W' + 1 = w.t.size ∧ (F' ++ W'.flatMap fun x => x.t.jo).Perm w.t.jo ∧ F'.length ≤ 1 ∧ W'.length ≤ 2 ∧
      jB last [.v d0, .own 0 (F.map tupI), .own 0 ((W ++ [w]).map Wt.dd), s3, s4, s5, s6, s7, s8] = some (.nx [.v d0, .own 0 ((F ++ F').map tupI), .own 0 ((W ++ W').map Wt.dd), s3', s4', s5', s6', s7', s8']) := by
  obtain ⟨f3, f4, f5, f6, f7, f8⟩ := f
  obtain ⟨d, t, a, b⟩ := w
  obtain ⟨k1, k2, k3⟩ := hw
  have p : evPop 2 [.v d0, .own 0 (F.map tupI), .own 0 ((W ++ [(⟨d, t, a, b⟩ : Wt)]).map Wt.dd), s3, s4, s5, s6, s7, s8] = some (.ok ⟨.tup [d, .int a, .int b], false⟩ [.v d0, .own 0 (F.map tupI), .own 0 (W.map Wt.dd), s3, s4, s5, s6, s7, s8]) :=
    pop_r (ds := W.map Wt.dd) (by show some _ = some _; rw [List.map_append]; rfl) (by decide)
  have hm : 2000000 < LIM := by decide
  cases k1 with
  | leaf i =>
    refine ⟨[], [], .v (.int i), .v (.int a), .v (.int b), s6, s7, s8, ⟨rfl, rfl, rfl, f6, f7, f8⟩, (fun x hx => nomatch hx), rfl, List.Perm.refl _, Nat.zero_le _, Nat.zero_le _, ?_⟩
    unfold jB
    simp (config := { decide := false }) only [k1_ok, k1_ex, k1_no, ret_r, asF_r, asE_r, asI_r, asL_t, as_nil, as_e, as_l, isSet_r, isSet_v, isSet_o, fdR_s, fd_nil, fd_r, fd_l, fdL_v, fdL_o, prC_s, prB_s, prA_r, pr_r, gd_t, sl_r, slK_v, slK_o, k_r, tb_r, tbA_r, tC_s, tB_s, tA_r, t_r, noA_r, not_r, anA_t, anA_f, and_r, orA_t, orA_f, or_r, ifA_t, ifA_f, if_r, anV_t, anV_f, anU_r, andV_r, orV_t, orV_f, orU_r, orV_r, ntV_s, ntU_r, notV_r, tru_b, tru_i, tru_n, tru_t, tru_l, tru_f, free_r, free_u, free_v, free_o, asgK_t, asg_r, asgM_f, asgM_l, asgM_t, acK_s, ac_r, an_r, atL_t, atK_s, at_r, sq_t, sq_l, sq_f, nxK_s, setK_ok, setK_ex, set_r, seq_r, seqK_nx, seqK_rt, seqK_ro, seqK_bk, seqK_ct, seqK_ex, ifs_r, ifK_t, ifK_f, nx_r, bk_r, ct_r, rets_r, retK_ok, retK_ex, rs_r, rsK_v, rsK_o, retN_r, expr_r, exK_ok, exK_ex, crK_s, crL_ok, crL_ex, cr_r, nod_n, nod_1, call_r, ckA_r, callK_r, agR_s, ag_nil, ag_r, ag_l, agL_v, agL_o, ol_nil, ol_r, ol_l, olK_v, olK_o, bk_nil, bkr, bkl, bkK_v, bkK_o, si_r, siA_ok, siA_ex, siE_t, siB_ok, siC_s, siD_s, isOwn_r, isOwn_o, dfA_t, df_r, dfB_nx, dfB_rt, dfB_ex, ba_v, ba_o, ba_n, nm_n, nm_v, nm_o, p_add, p_sub, p_mul, p_mod, p_fdiv, p_neg, p_int, p_intB, p_cmp, p_ixL, p_ixT, p_ixF, p_lenL, p_lenT, p_lenF, p_listT, p_listL, p_tupleL, p_tupleT, List.getElem?_cons_zero, List.getElem?_cons_succ, List.getElem?_nil, List.set_cons_zero, List.set_cons_succ, List.length_cons, List.length_nil, Option.map_some, Option.map_none, List.cons_append, List.nil_append, List.append_nil, Bool.and_true, Bool.true_and, Bool.or_true, Bool.true_or, Bool.and_false, Bool.false_and, Bool.or_false, Bool.false_or, Bool.not_true, Bool.not_false, decide_true, decide_false, p, Nat.beq, Nat.reduceAdd, f3, f4, f5, isiII]
  | @tup x y l r hx hy =>
    obtain ⟨m, g1, g2⟩ := k2
    obtain ⟨q1, q2, _⟩ := g1.ends
    obtain ⟨q3, q4, _⟩ := g2.ends
    simp only [Tr.dep] at k3
    have e1 := L x l hx (by omega)
    rw [q2] at e1
    have l1 : Nat.blt (F.map tupI).length LIM = true := Nat.ble_eq_true_of_le (by rw [List.length_map]; omega)
    have l2 : Nat.blt (W.map Wt.dd).length LIM = true := Nat.ble_eq_true_of_le (by rw [List.length_map]; omega)
    have l3 : ∀ z, Nat.blt (W.map Wt.dd ++ [z]).length LIM = true := fun z => Nat.ble_eq_true_of_le (by rw [List.length_append, List.length_map, List.length_singleton]; omega)
    have t1 : ([.int m, .int a, .int b] : List D).length ≤ LIM := by show 3 ≤ LIM; decide
    have t2 : ([x, .int a, .int m] : List D).length ≤ LIM := by show 3 ≤ LIM; decide
    have t3 : ([y, .int (m + 1), .int b] : List D).length ≤ LIM := by show 3 ≤ LIM; decide
    have mt : mutable 0 = true := rfl
    have hc : cnt [(⟨x, l, a, m⟩ : Wt), ⟨y, r, m + 1, b⟩] + 1 = (Tr.node l r).size := by simp [cnt, Tr.size]
    have hp : ([[m, a, b]] ++ [(⟨x, l, a, m⟩ : Wt), ⟨y, r, m + 1, b⟩].flatMap fun x => x.t.jo).Perm (Tr.node l r).jo := by
      simp only [Tr.jo, Tr.joins, List.flatMap_cons, List.flatMap_nil, List.append_nil, List.map_append, List.map_cons, List.map_nil, q1, q2, q4]
      rw [← List.append_assoc]
      exact List.Perm.append_right _ List.perm_append_comm
    refine ⟨[[m, a, b]], [⟨x, l, a, m⟩, ⟨y, r, m + 1, b⟩], .v (.tup [x, y]), .v (.int a), .v (.int b), .v x, .v y, .v (.int m), ⟨rfl, rfl, rfl, rfl, rfl, rfl⟩, ?_, hc, hp, Nat.le_refl _, Nat.le_refl _, ?_⟩
    · intro w hw
      simp only [List.mem_cons, List.not_mem_nil, or_false] at hw
      rcases hw with rfl | rfl
      · exact ⟨hx, g1, by show l.dep < 1000; omega⟩
      · exact ⟨hy, g2, by show r.dep < 1000; omega⟩
    · unfold jB
      simp (config := { decide := false }) only [k1_ok, k1_ex, k1_no, ret_r, asF_r, asE_r, asI_r, asL_t, as_nil, as_e, as_l, isSet_r, isSet_v, isSet_o, fdR_s, fd_nil, fd_r, fd_l, fdL_v, fdL_o, prC_s, prB_s, prA_r, pr_r, gd_t, sl_r, slK_v, slK_o, k_r, tb_r, tbA_r, tC_s, tB_s, tA_r, t_r, noA_r, not_r, anA_t, anA_f, and_r, orA_t, orA_f, or_r, ifA_t, ifA_f, if_r, anV_t, anV_f, anU_r, andV_r, orV_t, orV_f, orU_r, orV_r, ntV_s, ntU_r, notV_r, tru_b, tru_i, tru_n, tru_t, tru_l, tru_f, free_r, free_u, free_v, free_o, asgK_t, asg_r, asgM_f, asgM_l, asgM_t, acK_s, ac_r, an_r, atL_t, atK_s, at_r, sq_t, sq_l, sq_f, nxK_s, setK_ok, setK_ex, set_r, seq_r, seqK_nx, seqK_rt, seqK_ro, seqK_bk, seqK_ct, seqK_ex, ifs_r, ifK_t, ifK_f, nx_r, bk_r, ct_r, rets_r, retK_ok, retK_ex, rs_r, rsK_v, rsK_o, retN_r, expr_r, exK_ok, exK_ex, crK_s, crL_ok, crL_ex, cr_r, nod_n, nod_1, call_r, ckA_r, callK_r, agR_s, ag_nil, ag_r, ag_l, agL_v, agL_o, ol_nil, ol_r, ol_l, olK_v, olK_o, bk_nil, bkr, bkl, bkK_v, bkK_o, si_r, siA_ok, siA_ex, siE_t, siB_ok, siC_s, siD_s, isOwn_r, isOwn_o, dfA_t, df_r, dfB_nx, dfB_rt, dfB_ex, ba_v, ba_o, ba_n, nm_n, nm_v, nm_o, p_add, p_sub, p_mul, p_mod, p_fdiv, p_neg, p_int, p_intB, p_cmp, p_ixL, p_ixT, p_ixF, p_lenL, p_lenT, p_lenF, p_listT, p_listL, p_tupleL, p_tupleT, List.getElem?_cons_zero, List.getElem?_cons_succ, List.getElem?_nil, List.set_cons_zero, List.set_cons_succ, List.length_cons, List.length_nil, Option.map_some, Option.map_none, List.cons_append, List.nil_append, List.append_nil, Bool.and_true, Bool.true_and, Bool.or_true, Bool.true_or, Bool.and_false, Bool.false_and, Bool.or_false, Bool.false_or, Bool.not_true, Bool.not_false, decide_true, decide_false, p, Nat.beq, Nat.reduceAdd, f3, f4, f5, f6, f7, f8, isiIT, e1, ap_r, apA_ok, apB_s, apC_t, l1, l2, l3, mt, p_tup t1, p_tup t2, p_tup t3]
      simp [tupI, Wt.dd]
  | @lst x y l r hx hy =>
    obtain ⟨m, g1, g2⟩ := k2
    obtain ⟨q1, q2, _⟩ := g1.ends
    obtain ⟨q3, q4, _⟩ := g2.ends
    simp only [Tr.dep] at k3
    have e1 := L x l hx (by omega)
    rw [q2] at e1
    have l1 : Nat.blt (F.map tupI).length LIM = true := Nat.ble_eq_true_of_le (by rw [List.length_map]; omega)
    have l2 : Nat.blt (W.map Wt.dd).length LIM = true := Nat.ble_eq_true_of_le (by rw [List.length_map]; omega)
    have l3 : ∀ z, Nat.blt (W.map Wt.dd ++ [z]).length LIM = true := fun z => Nat.ble_eq_true_of_le (by rw [List.length_append, List.length_map, List.length_singleton]; omega)
    have t1 : ([.int m, .int a, .int b] : List D).length ≤ LIM := by show 3 ≤ LIM; decide
    have t2 : ([x, .int a, .int m] : List D).length ≤ LIM := by show 3 ≤ LIM; decide
    have t3 : ([y, .int (m + 1), .int b] : List D).length ≤ LIM := by show 3 ≤ LIM; decide
    have mt : mutable 0 = true := rfl
    have hc : cnt [(⟨x, l, a, m⟩ : Wt), ⟨y, r, m + 1, b⟩] + 1 = (Tr.node l r).size := by simp [cnt, Tr.size]
    have hp : ([[m, a, b]] ++ [(⟨x, l, a, m⟩ : Wt), ⟨y, r, m + 1, b⟩].flatMap fun x => x.t.jo).Perm (Tr.node l r).jo := by
      simp only [Tr.jo, Tr.joins, List.flatMap_cons, List.flatMap_nil, List.append_nil, List.map_append, List.map_cons, List.map_nil, q1, q2, q4]
      rw [← List.append_assoc]
      exact List.Perm.append_right _ List.perm_append_comm
    refine ⟨[[m, a, b]], [⟨x, l, a, m⟩, ⟨y, r, m + 1, b⟩], .v (.lst [x, y]), .v (.int a), .v (.int b), .v x, .v y, .v (.int m), ⟨rfl, rfl, rfl, rfl, rfl, rfl⟩, ?_, hc, hp, Nat.le_refl _, Nat.le_refl _, ?_⟩
    · intro w hw
      simp only [List.mem_cons, List.not_mem_nil, or_false] at hw
      rcases hw with rfl | rfl
      · exact ⟨hx, g1, by show l.dep < 1000; omega⟩
      · exact ⟨hy, g2, by show r.dep < 1000; omega⟩
    · unfold jB
      simp (config := { decide := false }) only [k1_ok, k1_ex, k1_no, ret_r, asF_r, asE_r, asI_r, asL_t, as_nil, as_e, as_l, isSet_r, isSet_v, isSet_o, fdR_s, fd_nil, fd_r, fd_l, fdL_v, fdL_o, prC_s, prB_s, prA_r, pr_r, gd_t, sl_r, slK_v, slK_o, k_r, tb_r, tbA_r, tC_s, tB_s, tA_r, t_r, noA_r, not_r, anA_t, anA_f, and_r, orA_t, orA_f, or_r, ifA_t, ifA_f, if_r, anV_t, anV_f, anU_r, andV_r, orV_t, orV_f, orU_r, orV_r, ntV_s, ntU_r, notV_r, tru_b, tru_i, tru_n, tru_t, tru_l, tru_f, free_r, free_u, free_v, free_o, asgK_t, asg_r, asgM_f, asgM_l, asgM_t, acK_s, ac_r, an_r, atL_t, atK_s, at_r, sq_t, sq_l, sq_f, nxK_s, setK_ok, setK_ex, set_r, seq_r, seqK_nx, seqK_rt, seqK_ro, seqK_bk, seqK_ct, seqK_ex, ifs_r, ifK_t, ifK_f, nx_r, bk_r, ct_r, rets_r, retK_ok, retK_ex, rs_r, rsK_v, rsK_o, retN_r, expr_r, exK_ok, exK_ex, crK_s, crL_ok, crL_ex, cr_r, nod_n, nod_1, call_r, ckA_r, callK_r, agR_s, ag_nil, ag_r, ag_l, agL_v, agL_o, ol_nil, ol_r, ol_l, olK_v, olK_o, bk_nil, bkr, bkl, bkK_v, bkK_o, si_r, siA_ok, siA_ex, siE_t, siB_ok, siC_s, siD_s, isOwn_r, isOwn_o, dfA_t, df_r, dfB_nx, dfB_rt, dfB_ex, ba_v, ba_o, ba_n, nm_n, nm_v, nm_o, p_add, p_sub, p_mul, p_mod, p_fdiv, p_neg, p_int, p_intB, p_cmp, p_ixL, p_ixT, p_ixF, p_lenL, p_lenT, p_lenF, p_listT, p_listL, p_tupleL, p_tupleT, List.getElem?_cons_zero, List.getElem?_cons_succ, List.getElem?_nil, List.set_cons_zero, List.set_cons_succ, List.length_cons, List.length_nil, Option.map_some, Option.map_none, List.cons_append, List.nil_append, List.append_nil, Bool.and_true, Bool.true_and, Bool.or_true, Bool.true_or, Bool.and_false, Bool.false_and, Bool.or_false, Bool.false_or, Bool.not_true, Bool.not_false, decide_true, decide_false, p, Nat.beq, Nat.reduceAdd, f3, f4, f5, f6, f7, f8, isiIL, e1, ap_r, apA_ok, apB_s, apC_t, l1, l2, l3, mt, p_tup t1, p_tup t2, p_tup t3]
      simp [tupI, Wt.dd]
end L3

/-! M8: the joins with their ends, in order; reaches, starts. -/
namespace L3
open PySem L2
theorem Tr.size_pos : ∀ t : Tr, 1 ≤ t.size
  | .leaf _ => Nat.le_refl _
  | .node l r => by simp only [Tr.size]; omega
theorem cnt_len : ∀ W : List Wt, W.length ≤ cnt W
  | [] => Nat.le_refl _
  | w :: W => by
    have := cnt_len W
    have := w.t.size_pos
    simp only [cnt, List.map_cons, List.sum_cons, List.length_cons] at *
    omega
theorem cnt_app (V W : List Wt) : cnt (V ++ W) = cnt V + cnt W := by simp [cnt]
theorem joins_w {last : Ev R} (L : LastOk last) {d0 : D} : ∀ (k n : Nat) (W : List Wt) (F : List (List Int)) (s3 s4 s5 s6 s7 s8 : Slot), fr6 s3 s4 s5 s6 s7 s8 → (∀ w ∈ W, w.ok) → cnt W ≤ k → k < n → F.length + k < 1000000 →
    ∃ (F' : List (List Int)) (s3' s4' s5' s6' s7' s8' : Slot), F'.Perm (F ++ W.flatMap fun x => x.t.jo) ∧ sWhile jT (jB last) n [.v d0, .own 0 (F.map tupI), .own 0 (W.map Wt.dd), s3, s4, s5, s6, s7, s8] = some (.nx [.v d0, .own 0 (F'.map tupI), .own 0 [], s3', s4', s5', s6', s7', s8']) := by
  intro k
  induction k with
  | zero =>
    intro n W F s3 s4 s5 s6 s7 s8 f hW hc hn hF
    have : W = [] := List.length_eq_zero_iff.mp (by have := cnt_len W; omega)
    subst this
    obtain ⟨n, rfl⟩ : ∃ m, n = m + 1 := ⟨n - 1, by omega⟩
    have em : ([] : List D).isEmpty = true := rfl
    refine ⟨F, s3, s4, s5, s6, s7, s8, by simp, wh_f ?_⟩
    simp (config := { decide := false }) only [k1_ok, k1_ex, k1_no, ret_r, asF_r, asE_r, asI_r, asL_t, as_nil, as_e, as_l, isSet_r, isSet_v, isSet_o, fdR_s, fd_nil, fd_r, fd_l, fdL_v, fdL_o, prC_s, prB_s, prA_r, pr_r, gd_t, sl_r, slK_v, slK_o, k_r, tb_r, tbA_r, tC_s, tB_s, tA_r, t_r, noA_r, not_r, anA_t, anA_f, and_r, orA_t, orA_f, or_r, ifA_t, ifA_f, if_r, anV_t, anV_f, anU_r, andV_r, orV_t, orV_f, orU_r, orV_r, ntV_s, ntU_r, notV_r, tru_b, tru_i, tru_n, tru_t, tru_l, tru_f, free_r, free_u, free_v, free_o, asgK_t, asg_r, asgM_f, asgM_l, asgM_t, acK_s, ac_r, an_r, atL_t, atK_s, at_r, sq_t, sq_l, sq_f, nxK_s, setK_ok, setK_ex, set_r, seq_r, seqK_nx, seqK_rt, seqK_ro, seqK_bk, seqK_ct, seqK_ex, ifs_r, ifK_t, ifK_f, nx_r, bk_r, ct_r, rets_r, retK_ok, retK_ex, rs_r, rsK_v, rsK_o, retN_r, expr_r, exK_ok, exK_ex, crK_s, crL_ok, crL_ex, cr_r, nod_n, nod_1, call_r, ckA_r, callK_r, agR_s, ag_nil, ag_r, ag_l, agL_v, agL_o, ol_nil, ol_r, ol_l, olK_v, olK_o, bk_nil, bkr, bkl, bkK_v, bkK_o, si_r, siA_ok, siA_ex, siE_t, siB_ok, siC_s, siD_s, isOwn_r, isOwn_o, dfA_t, df_r, dfB_nx, dfB_rt, dfB_ex, ba_v, ba_o, ba_n, nm_n, nm_v, nm_o, p_add, p_sub, p_mul, p_mod, p_fdiv, p_neg, p_int, p_intB, p_cmp, p_ixL, p_ixT, p_ixF, p_lenL, p_lenT, p_lenF, p_listT, p_listL, p_tupleL, p_tupleT, List.getElem?_cons_zero, List.getElem?_cons_succ, List.getElem?_nil, List.set_cons_zero, List.set_cons_succ, List.length_cons, List.length_nil, Option.map_some, Option.map_none, List.cons_append, List.nil_append, List.append_nil, Bool.and_true, Bool.true_and, Bool.or_true, Bool.true_or, Bool.and_false, Bool.false_and, Bool.or_false, Bool.false_or, Bool.not_true, Bool.not_false, decide_true, decide_false, List.map_nil, em]
  | succ k ih =>
    intro n W F s3 s4 s5 s6 s7 s8 f hW hc hn hF
    obtain ⟨n, rfl⟩ : ∃ m, n = m + 1 := ⟨n - 1, by omega⟩
    rcases List.eq_nil_or_concat W with e | ⟨V, w, e⟩
    · subst e
      have em : ([] : List D).isEmpty = true := rfl
      refine ⟨F, s3, s4, s5, s6, s7, s8, by simp, wh_f ?_⟩
      simp (config := { decide := false }) only [k1_ok, k1_ex, k1_no, ret_r, asF_r, asE_r, asI_r, asL_t, as_nil, as_e, as_l, isSet_r, isSet_v, isSet_o, fdR_s, fd_nil, fd_r, fd_l, fdL_v, fdL_o, prC_s, prB_s, prA_r, pr_r, gd_t, sl_r, slK_v, slK_o, k_r, tb_r, tbA_r, tC_s, tB_s, tA_r, t_r, noA_r, not_r, anA_t, anA_f, and_r, orA_t, orA_f, or_r, ifA_t, ifA_f, if_r, anV_t, anV_f, anU_r, andV_r, orV_t, orV_f, orU_r, orV_r, ntV_s, ntU_r, notV_r, tru_b, tru_i, tru_n, tru_t, tru_l, tru_f, free_r, free_u, free_v, free_o, asgK_t, asg_r, asgM_f, asgM_l, asgM_t, acK_s, ac_r, an_r, atL_t, atK_s, at_r, sq_t, sq_l, sq_f, nxK_s, setK_ok, setK_ex, set_r, seq_r, seqK_nx, seqK_rt, seqK_ro, seqK_bk, seqK_ct, seqK_ex, ifs_r, ifK_t, ifK_f, nx_r, bk_r, ct_r, rets_r, retK_ok, retK_ex, rs_r, rsK_v, rsK_o, retN_r, expr_r, exK_ok, exK_ex, crK_s, crL_ok, crL_ex, cr_r, nod_n, nod_1, call_r, ckA_r, callK_r, agR_s, ag_nil, ag_r, ag_l, agL_v, agL_o, ol_nil, ol_r, ol_l, olK_v, olK_o, bk_nil, bkr, bkl, bkK_v, bkK_o, si_r, siA_ok, siA_ex, siE_t, siB_ok, siC_s, siD_s, isOwn_r, isOwn_o, dfA_t, df_r, dfB_nx, dfB_rt, dfB_ex, ba_v, ba_o, ba_n, nm_n, nm_v, nm_o, p_add, p_sub, p_mul, p_mod, p_fdiv, p_neg, p_int, p_intB, p_cmp, p_ixL, p_ixT, p_ixF, p_lenL, p_lenT, p_lenF, p_listT, p_listL, p_tupleL, p_tupleT, List.getElem?_cons_zero, List.getElem?_cons_succ, List.getElem?_nil, List.set_cons_zero, List.set_cons_succ, List.length_cons, List.length_nil, Option.map_some, Option.map_none, List.cons_append, List.nil_append, List.append_nil, Bool.and_true, Bool.true_and, Bool.or_true, Bool.true_or, Bool.and_false, Bool.false_and, Bool.or_false, Bool.false_or, Bool.not_true, Bool.not_false, decide_true, decide_false, List.map_nil, em]
    · rw [List.concat_eq_append] at e
      subst e
      rw [cnt_app] at hc
      have c1 : cnt [w] = w.t.size := by simp [cnt]
      have lV := cnt_len V
      have := w.t.size_pos
      obtain ⟨F1, W1, r3, r4, r5, r6, r7, r8, g, q1, q2, q3, q4, q5, st⟩ := joins_step L (d0 := d0) (F := F) (W := V) f (hW w (by simp)) (by omega) (by omega)
      obtain ⟨F2, s3', s4', s5', s6', s7', s8', p, e⟩ := ih n (V ++ W1) (F ++ F1) r3 r4 r5 r6 r7 r8 g (fun x hx => by
        rcases List.mem_append.mp hx with z | z
        · exact hW x (by simp [z])
        · exact q1 x z) (by rw [cnt_app]; omega) (by omega) (by rw [List.length_append]; omega)
      have em : ((V ++ [w]).map Wt.dd).isEmpty = false := by simp
      have t : jT [.v d0, .own 0 (F.map tupI), .own 0 ((V ++ [w]).map Wt.dd), s3, s4, s5, s6, s7, s8] = some (.ok true [.v d0, .own 0 (F.map tupI), .own 0 ((V ++ [w]).map Wt.dd), s3, s4, s5, s6, s7, s8]) := by
        simp (config := { decide := false }) only [k1_ok, k1_ex, k1_no, ret_r, asF_r, asE_r, asI_r, asL_t, as_nil, as_e, as_l, isSet_r, isSet_v, isSet_o, fdR_s, fd_nil, fd_r, fd_l, fdL_v, fdL_o, prC_s, prB_s, prA_r, pr_r, gd_t, sl_r, slK_v, slK_o, k_r, tb_r, tbA_r, tC_s, tB_s, tA_r, t_r, noA_r, not_r, anA_t, anA_f, and_r, orA_t, orA_f, or_r, ifA_t, ifA_f, if_r, anV_t, anV_f, anU_r, andV_r, orV_t, orV_f, orU_r, orV_r, ntV_s, ntU_r, notV_r, tru_b, tru_i, tru_n, tru_t, tru_l, tru_f, free_r, free_u, free_v, free_o, asgK_t, asg_r, asgM_f, asgM_l, asgM_t, acK_s, ac_r, an_r, atL_t, atK_s, at_r, sq_t, sq_l, sq_f, nxK_s, setK_ok, setK_ex, set_r, seq_r, seqK_nx, seqK_rt, seqK_ro, seqK_bk, seqK_ct, seqK_ex, ifs_r, ifK_t, ifK_f, nx_r, bk_r, ct_r, rets_r, retK_ok, retK_ex, rs_r, rsK_v, rsK_o, retN_r, expr_r, exK_ok, exK_ex, crK_s, crL_ok, crL_ex, cr_r, nod_n, nod_1, call_r, ckA_r, callK_r, agR_s, ag_nil, ag_r, ag_l, agL_v, agL_o, ol_nil, ol_r, ol_l, olK_v, olK_o, bk_nil, bkr, bkl, bkK_v, bkK_o, si_r, siA_ok, siA_ex, siE_t, siB_ok, siC_s, siD_s, isOwn_r, isOwn_o, dfA_t, df_r, dfB_nx, dfB_rt, dfB_ex, ba_v, ba_o, ba_n, nm_n, nm_v, nm_o, p_add, p_sub, p_mul, p_mod, p_fdiv, p_neg, p_int, p_intB, p_cmp, p_ixL, p_ixT, p_ixF, p_lenL, p_lenT, p_lenF, p_listT, p_listL, p_tupleL, p_tupleT, List.getElem?_cons_zero, List.getElem?_cons_succ, List.getElem?_nil, List.set_cons_zero, List.set_cons_succ, List.length_cons, List.length_nil, Option.map_some, Option.map_none, List.cons_append, List.nil_append, List.append_nil, Bool.and_true, Bool.true_and, Bool.or_true, Bool.true_or, Bool.and_false, Bool.false_and, Bool.or_false, Bool.false_or, Bool.not_true, Bool.not_false, decide_true, decide_false, em]
      refine ⟨F2, s3', s4', s5', s6', s7', s8', p.trans ?_, by rw [wh_t t st]; exact e⟩
      rw [List.append_assoc]
      refine List.Perm.append_left _ ?_
      simp only [List.flatMap_append, List.flatMap_cons, List.flatMap_nil, List.append_nil]
      refine (List.perm_append_comm_assoc _ _ _).trans (List.Perm.append_left _ q3)
end L3

/-! M9: sorted rows; all joins of a grouping. -/
namespace L3
open PySem L2
theorem ints_map : ∀ ns : List Int, D.ints (ns.map D.int) = some ns
  | [] => rfl
  | n :: ns => by simp [D.ints, ints_map ns]
theorem tints_map : ∀ F : List (List Int), tints (F.map tupI) = some F
  | [] => rfl
  | n :: F => by simp [tints, tupI, ints_map]; exact tints_map F
/-- rows that are a permutation of rows in strict order -/
theorem tsort_eq {F L : List (List Int)} (p : F.Perm L) (s : L.Pairwise fun a b => TS.code SB a < TS.code SB b) (hL : ∀ a ∈ L, a.length = 3 ∧ TS.Bd SB a) : tsort F = L := by
  refine List.Perm.eq_of_pairwise (le := cle) ?_ (tsort_sorted F) (s.imp fun h => Int.le_of_lt h) ((tsort_perm F).trans p)
  intro a b ha hb h1 h2
  have ha' := hL a (p.mem_iff.mp ((tsort_perm F).mem_iff.mp ha))
  have hb' := hL b hb
  exact code_inj (ha'.1.trans hb'.1.symm) ha'.2 hb'.2 (Int.le_antisymm h1 h2)
theorem sorted_eq {F L : List (List Int)} (p : F.Perm L) (s : L.Pairwise fun a b => TS.code SB a < TS.code SB b) (hL : ∀ a ∈ L, a.length = 3 ∧ TS.Bd SB a) (hl : L.length < 64) : gSorted [.lst (F.map tupI)] = some ⟨.lst (L.map tupI), true⟩ := by
  cases F with
  | nil =>
    have : L = [] := p.symm.eq_nil
    subst this; rfl
  | cons n F =>
    have e1 : lsInts (.lst ((n :: F).map tupI)) = none := rfl
    have e2 : (D.lst ((n :: F).map tupI)).ls.bind tints = some (n :: F) := tints_map (n :: F)
    have ok : okDims (n :: F) = true := by
      have q : ∀ m ∈ n :: F, m.length = 3 ∧ TS.Bd SB m := fun m hm => hL m (p.mem_iff.mp hm)
      unfold okDims
      have q0 := q n List.mem_cons_self
      simp only [Bool.and_eq_true, List.all_eq_true, decide_eq_true_eq]
      exact ⟨Nat.ble_eq_true_of_le (by omega), fun m hm => ⟨by rw [(q m hm).1, q0.1], fun i hi => (q m hm).2 i hi⟩⟩
    have lt : Nat.blt (n :: F).length 64 = true := Nat.ble_eq_true_of_le (by rw [p.length_eq]; exact hl)
    unfold gSorted
    simp only [e1, e2, ok, lt, Bool.and_true, tsort_eq p s hL]
    rfl
theorem Grp.cuts : ∀ {t : Tr} {a b : Int}, Grp a b t → (∀ p ∈ t.joins, a ≤ p.1 ∧ p.1 ≤ p.2.1 ∧ p.2.1 < p.2.2 ∧ p.2.2 ≤ b) ∧ t.joins.Pairwise (fun p q => p.2.1 < q.2.1) ∧ (t.joins.length : Int) = b - a ∧ (t.size : Int) = 2 * (b - a) + 1
  | .leaf i, a, b, h => ⟨fun p hp => by simp [Tr.joins] at hp, by simp [Tr.joins], by have := h.2; simp [Tr.joins]; omega, by have := h.2; simp only [Tr.size]; omega⟩
  | .node l r, a, b, ⟨m, h1, h2⟩ => by
    obtain ⟨c1, p1, l1, z1⟩ := h1.cuts
    obtain ⟨c2, p2, l2, z2⟩ := h2.cuts
    obtain ⟨e1, e2, _⟩ := h1.ends
    obtain ⟨e3, e4, _⟩ := h2.ends
    have w1 := h1.le
    have w2 := h2.le
    refine ⟨fun p hp => ?_, ?_, ?_, ?_⟩
    · simp only [Tr.joins, List.mem_append, List.mem_cons, List.not_mem_nil, or_false] at hp
      rcases hp with (hp | hp) | hp
      · have := c1 p hp; omega
      · subst hp; simp only [e1, e2, e4]; omega
      · have := c2 p hp; omega
    · simp only [Tr.joins]
      rw [List.append_assoc, List.pairwise_append, List.pairwise_append]
      refine ⟨p1, ⟨List.pairwise_singleton _ _, p2, fun p hp q hq => ?_⟩, fun p hp q hq => ?_⟩
      · rw [List.mem_singleton] at hp
        subst hp
        have := c2 q hq
        simp only [e2]; omega
      · have := c1 p hp
        rcases List.mem_append.mp hq with hq | hq
        · rw [List.mem_singleton] at hq
          subst hq
          simp only [e2]; omega
        · have := c2 q hq; omega
    · simp only [Tr.joins, List.length_append, List.length_cons, List.length_nil]; omega
    · simp only [Tr.size]; omega
theorem Grp.jo {t : Tr} {N : Int} (h : Grp 1 N t) (hN : N ≤ 60) : t.jo.Pairwise (fun a b => TS.code SB a < TS.code SB b) ∧ (∀ a ∈ t.jo, a.length = 3 ∧ TS.Bd SB a) ∧ t.jo.length < 64 := by
  obtain ⟨c, p, l, _⟩ := h.cuts
  have sb : SB = 1048576 := rfl
  have bd : ∀ q ∈ t.joins, TS.Bd SB [q.2.1, q.1, q.2.2] := fun q hq m hm => by
    have := c q hq
    simp only [List.mem_cons, List.not_mem_nil, or_false] at hm
    rw [sb]
    rcases hm with rfl | rfl | rfl <;> omega
  refine ⟨?_, fun a ha => ?_, by simp only [Tr.jo, List.length_map]; omega⟩
  · simp only [Tr.jo]
    rw [List.pairwise_map]
    exact p.imp_of_mem fun {x y} hx hy hxy => TS.code_lt rfl (bd x hx).tail (bd y hy).tail hxy
  · obtain ⟨q, hq, rfl⟩ := List.mem_map.mp ha
    exact ⟨rfl, bd q hq⟩
def JoinsOk (fe : Ev R) : Prop := ∀ (d : D) (t : Tr) (N : Int), IsTr d t → Grp 1 N t → N ≤ 60 → fe [.v d] = some (.ok ⟨.lst (t.jo.map tupI), true⟩ [.v d])
theorem joins_ok {last : Ev R} (L : LastOk last) : JoinsOk (defEv 1 8 (tJoins last)) := by
  intro d t N h g hN
  obtain ⟨q1, q2, q3⟩ := g.ends
  obtain ⟨_, _, _, z⟩ := g.cuts
  have w := g.le
  have hd : t.dep < 1000 := by omega
  have e0 := L d t h hd
  rw [q2] at e0
  obtain ⟨p1, p2, p3⟩ := g.jo hN
  have hl0 : ([] : List D).length ≤ LIM := Nat.zero_le _
  have hl1 : ([.int 0, .int 0, .int 0] : List D).length ≤ LIM := by show 3 ≤ LIM; decide
  have hl3 : ([d, .int 1, .int N] : List D).length ≤ LIM := hl1
  have hl4 : ([.tup [d, .int 1, .int N]] : List D).length ≤ LIM := by show 1 ≤ LIM; decide
  obtain ⟨F, s3, s4, s5, s6, s7, s8, pf, e⟩ := joins_w L (d0 := d) 200 FUEL [⟨d, t, 1, N⟩] [] .unk .unk .unk .unk .unk .unk ⟨rfl, rfl, rfl, rfl, rfl, rfl⟩ (fun x hx => by rw [List.mem_singleton] at hx; subst hx; exact ⟨h, g, hd⟩) (by simp [cnt]; omega) (by decide) (by decide)
  have pf' : F.Perm t.jo := by simpa using pf
  have es := sorted_eq pf' p1 p2 p3
  have e' : sWhile jT (jB last) FUEL [.v d, .own 0 [], .own 0 [.tup [d, .int 1, .int N]], .unk, .unk, .unk, .unk, .unk, .unk] = _ := e
  unfold tJoins
  have eb : sWhile (evT (.late 2))
    (sSeq (sSet (asgTup 3 (asgCons (asgSl 3) (asgCons (asgSl 4) (asgCons (asgSl 5) asgNil)))) (evPop 2))
    (sIf (evNotT (evT (.e (evPr (gIsi [.int]) [.late 3]))))
      (sSeq (sSet (asgTup 2 (asgCons (asgSl 6) (asgCons (asgSl 7) asgNil))) (evSl 3))
      (sSeq (sSet (asgSl 8) (evCall last [.e (evSl 6)]))
      (sSeq (sExpr (evAppend 1 (evPr gTup [.e (evSl 8), .e (evSl 4), .e (evSl 5)])))
      (sSeq (sExpr (evAppend 2 (evPr gTup [.e (evSl 6), .e (evSl 4), .e (evSl 8)])))
      (sExpr (evAppend 2 (evPr gTup [.e (evSl 7), .e (evPr gAdd [.late 8, .e (evK (.int (1)))]), .e (evSl 5)])))))))
      (sNx))) FUEL = sWhile jT (jB last) FUEL := rfl
  rw [eb]
  generalize sWhile jT (jB last) FUEL = Wh at e' ⊢
  simp (config := { decide := false }) only [k1_ok, k1_ex, k1_no, ret_r, asF_r, asE_r, asI_r, asL_t, as_nil, as_e, as_l, isSet_r, isSet_v, isSet_o, fdR_s, fd_nil, fd_r, fd_l, fdL_v, fdL_o, prC_s, prB_s, prA_r, pr_r, gd_t, sl_r, slK_v, slK_o, k_r, tb_r, tbA_r, tC_s, tB_s, tA_r, t_r, noA_r, not_r, anA_t, anA_f, and_r, orA_t, orA_f, or_r, ifA_t, ifA_f, if_r, anV_t, anV_f, anU_r, andV_r, orV_t, orV_f, orU_r, orV_r, ntV_s, ntU_r, notV_r, tru_b, tru_i, tru_n, tru_t, tru_l, tru_f, free_r, free_u, free_v, free_o, asgK_t, asg_r, asgM_f, asgM_l, asgM_t, acK_s, ac_r, an_r, atL_t, atK_s, at_r, sq_t, sq_l, sq_f, nxK_s, setK_ok, setK_ex, set_r, seq_r, seqK_nx, seqK_rt, seqK_ro, seqK_bk, seqK_ct, seqK_ex, ifs_r, ifK_t, ifK_f, nx_r, bk_r, ct_r, rets_r, retK_ok, retK_ex, rs_r, rsK_v, rsK_o, retN_r, expr_r, exK_ok, exK_ex, crK_s, crL_ok, crL_ex, cr_r, nod_n, nod_1, call_r, ckA_r, callK_r, agR_s, ag_nil, ag_r, ag_l, agL_v, agL_o, ol_nil, ol_r, ol_l, olK_v, olK_o, bk_nil, bkr, bkl, bkK_v, bkK_o, si_r, siA_ok, siA_ex, siE_t, siB_ok, siC_s, siD_s, isOwn_r, isOwn_o, dfA_t, df_r, dfB_nx, dfB_rt, dfB_ex, ba_v, ba_o, ba_n, nm_n, nm_v, nm_o, p_add, p_sub, p_mul, p_mod, p_fdiv, p_neg, p_int, p_intB, p_cmp, p_ixL, p_ixT, p_ixF, p_lenL, p_lenT, p_lenF, p_listT, p_listL, p_tupleL, p_tupleT, List.getElem?_cons_zero, List.getElem?_cons_succ, List.getElem?_nil, List.set_cons_zero, List.set_cons_succ, List.length_cons, List.length_nil, Option.map_some, Option.map_none, List.cons_append, List.nil_append, List.append_nil, Bool.and_true, Bool.true_and, Bool.or_true, Bool.true_or, Bool.and_false, Bool.false_and, Bool.or_false, Bool.false_or, Bool.not_true, Bool.not_false, decide_true, decide_false, List.replicate, Nat.beq, Nat.reduceAdd, e0, p_lst hl0, p_tup hl3, p_lst hl4, e', es]
end L3

/-! M10: reaches and starts; rows from behind; what the rows say of the grouping. -/
namespace L3
open PySem L2
/-! the mathematics -/
/-- parts are put together as long as the innermost join ends here -/
def cls (e : Int) : List Tr → List Int → List Tr × List Int
  | r :: l :: P, u :: U => if u = e then cls e (.node l r :: P) U else (r :: l :: P, u :: U)
  | P, U => (P, U)
def ofs : Int → List Int → List Tr × List Int → List Tr × List Int
  | _, [], s => s
  | j, r :: rs, s => ofs (j + 1) rs (cls (j + 1) (.leaf (j + 1) :: s.1) (r :: s.2))
theorem ofs_app : ∀ (xs ys : List Int) (j : Int) (s : List Tr × List Int), ofs j (xs ++ ys) s = ofs (j + xs.length) ys (ofs j xs s)
  | [], ys, j, s => by simp [ofs]
  | x :: xs, ys, j, s => by
    simp only [List.cons_append, ofs, ofs_app xs ys, List.length_cons]
    have : j + 1 + (xs.length : Int) = j + ((xs.length + 1 : Nat) : Int) := by omega
    rw [this]
theorem cls_no {e u : Int} {P : List Tr} {U : List Int} (h : u ≠ e) : cls e P (u :: U) = (P, u :: U) := by
  match P with
  | [] => rfl
  | [_] => rfl
  | r :: l :: P => simp [cls, h]
theorem cls_nil {e : Int} {P : List Tr} : cls e P [] = (P, []) := by
  match P with
  | [] => rfl
  | [_] => rfl
  | r :: l :: P => rfl
theorem cls_hd {e : Int} {P : List Tr} {U : List Int} (h : ∀ u ∈ U.head?, u ≠ e) : cls e P U = (P, U) := by
  cases U with
  | nil => exact cls_nil
  | cons u U => exact cls_no (h u rfl)
def Tr.arms (t : Tr) : List Int := t.joins.map fun p => p.2.2
def Tr.tails (t : Tr) : List Int := t.joins.map fun p => p.1
def Tr.cl : Tr → Int → List Tr → List Int → List Tr × List Int
  | .leaf i, _, P, U => (.leaf i :: P, U)
  | .node l r, e, P, U => cls e (.node l r :: P) U
theorem ofs_arms : ∀ {t : Tr} {a b : Int} {P : List Tr} {U : List Int}, Grp a b t → (∀ u ∈ U.head?, b ≤ u) → ofs a t.arms (.leaf a :: P, U) = t.cl b P U
  | .leaf i, a, b, P, U, h, _ => by simp [Tr.arms, Tr.joins, ofs, Tr.cl, h.1]
  | .node l r, a, b, P, U, ⟨m, h1, h2⟩, hu => by
    have w1 := h1.le
    have w2 := h2.le
    obtain ⟨_, _, z1, _⟩ := h1.cuts
    obtain ⟨_, e4, _⟩ := h2.ends
    have e1 : (Tr.node l r).arms = l.arms ++ (b :: r.arms) := by simp [Tr.arms, Tr.joins, e4]
    have e2 : ofs a l.arms (.leaf a :: P, U) = (l :: P, U) := by
      rw [ofs_arms h1 fun u hu' => by have := hu u hu'; omega]
      cases l with
      | leaf i => rfl
      | node x y => exact cls_hd fun u hu' => by have := hu u hu'; omega
    have e3 : a + (l.arms.length : Int) = m := by simp only [Tr.arms, List.length_map]; omega
    rw [e1, ofs_app, e2, e3]
    simp only [ofs]
    cases r with
    | leaf i =>
      obtain ⟨q1, q2⟩ := h2
      subst q1 q2
      simp [Tr.arms, Tr.joins, ofs, cls, Tr.cl]
    | node x y =>
      have hb : b ≠ m + 1 := fun q => by
        obtain ⟨k, g1, g2⟩ := h2
        have := g1.le
        have := g2.le
        omega
      rw [cls_no hb]
      have := ofs_arms (P := l :: P) (U := b :: U) h2 fun u hu' => by cases hu'; exact Int.le_refl _
      rw [this]
      simp [Tr.cl, cls]
theorem ofs_whole {t : Tr} {N : Int} (h : Grp 1 N t) : ofs 1 t.arms ([.leaf 1], []) = ([t], []) := by
  rw [ofs_arms h fun u hu => by simp at hu]
  cases t with
  | leaf i => rfl
  | node l r => exact cls_nil
theorem beh_ends : ∀ (t : Tr) (n : Int), (t.beh n).fst = n + 1 - t.lst ∧ (t.beh n).lst = n + 1 - t.fst
  | .leaf i, n => ⟨rfl, rfl⟩
  | .node l r, n => ⟨(beh_ends r n).1, (beh_ends l n).2⟩
theorem beh_grp : ∀ {t : Tr} {a b n : Int}, Grp a b t → Grp (n + 1 - b) (n + 1 - a) (t.beh n)
  | .leaf i, a, b, n, h => ⟨by rw [h.1, h.2], by have := h.2; omega⟩
  | .node l r, a, b, n, ⟨m, h1, h2⟩ => by
    have q := beh_grp (n := n) h1
    have e : n + 1 - (m + 1) + 1 = n + 1 - m := by omega
    exact ⟨n + 1 - (m + 1), beh_grp h2, by rw [e]; exact q⟩
theorem beh_joins : ∀ {t : Tr} {a b n : Int}, Grp a b t → (t.beh n).joins = t.joins.reverse.map fun p => (n + 1 - p.2.2, n - p.2.1, n + 1 - p.1)
  | .leaf i, a, b, n, _ => rfl
  | .node l r, a, b, n, ⟨m, h1, h2⟩ => by
    obtain ⟨e1, e2, _⟩ := h1.ends
    obtain ⟨e3, e4, _⟩ := h2.ends
    simp only [Tr.beh, Tr.joins, beh_joins h1, beh_joins h2, List.reverse_append, List.reverse_cons, List.reverse_nil, List.map_append, List.map_cons, List.map_nil, List.nil_append, List.append_assoc]
    simp only [(beh_ends l n).1, (beh_ends l n).2, (beh_ends r n).1, (beh_ends r n).2, e1, e2, e3, e4]
    have : n + 1 - (m + 1) = n - m := by omega
    rw [this]
theorem beh_arms {t : Tr} {a b n : Int} (h : Grp a b t) : (t.beh n).arms = t.tails.reverse.map fun x => n + 1 - x := by
  simp only [Tr.arms, Tr.tails, beh_joins h, List.map_map, ← List.map_reverse]
  rfl
/-! the evaluations -/
def tRows (joins : Ev R) (j : Nat) : EvS := sRet (evPr gTuple [.e (evComp (evSeq (.e (evCall joins [.e (evSl 0)]))) (asgTup 3 (asgCons (asgSl 2) (asgCons (asgSl 3) (asgCons (asgSl 4) asgNil)))) evYes (evSl j) [1, 2, 3, 4])])
theorem rows_ok {joins : Ev R} (J : JoinsOk joins) {j : Nat} {F : Int × Int × Int → Int} {d : D} {t : Tr} {N : Int} (hj : ∀ (s0 s1 : Slot) (p : Int × Int × Int), [s0, s1, Slot.v (.int p.2.1), .v (.int p.1), .v (.int p.2.2)][j]? = some (.v (.int (F p)))) (h : IsTr d t) (g : Grp 1 N t) (hN : N ≤ 60) :
    defEv 1 4 (tRows joins j) [.v d] = some (.ok ⟨.tup (t.joins.map fun p => .int (F p)), false⟩ [.v d]) := by
  have e0 := J d t N h g hN
  have e1 : evCall joins [.e (evSl 0)] [.v d, .unk, .unk, .unk, .unk] = some (.ok ⟨.lst (t.jo.map tupI), true⟩ [.v d, .unk, .unk, .unk, .unk]) := by simp (config := { decide := false }) only [k1_ok, k1_ex, k1_no, ret_r, asF_r, asE_r, asI_r, asL_t, as_nil, as_e, as_l, isSet_r, isSet_v, isSet_o, fdR_s, fd_nil, fd_r, fd_l, fdL_v, fdL_o, prC_s, prB_s, prA_r, pr_r, gd_t, sl_r, slK_v, slK_o, k_r, tb_r, tbA_r, tC_s, tB_s, tA_r, t_r, noA_r, not_r, anA_t, anA_f, and_r, orA_t, orA_f, or_r, ifA_t, ifA_f, if_r, anV_t, anV_f, anU_r, andV_r, orV_t, orV_f, orU_r, orV_r, ntV_s, ntU_r, notV_r, tru_b, tru_i, tru_n, tru_t, tru_l, tru_f, free_r, free_u, free_v, free_o, asgK_t, asg_r, asgM_f, asgM_l, asgM_t, acK_s, ac_r, an_r, atL_t, atK_s, at_r, sq_t, sq_l, sq_f, nxK_s, setK_ok, setK_ex, set_r, seq_r, seqK_nx, seqK_rt, seqK_ro, seqK_bk, seqK_ct, seqK_ex, ifs_r, ifK_t, ifK_f, nx_r, bk_r, ct_r, rets_r, retK_ok, retK_ex, rs_r, rsK_v, rsK_o, retN_r, expr_r, exK_ok, exK_ex, crK_s, crL_ok, crL_ex, cr_r, nod_n, nod_1, call_r, ckA_r, callK_r, agR_s, ag_nil, ag_r, ag_l, agL_v, agL_o, ol_nil, ol_r, ol_l, olK_v, olK_o, bk_nil, bkr, bkl, bkK_v, bkK_o, si_r, siA_ok, siA_ex, siE_t, siB_ok, siC_s, siD_s, isOwn_r, isOwn_o, dfA_t, df_r, dfB_nx, dfB_rt, dfB_ex, ba_v, ba_o, ba_n, nm_n, nm_v, nm_o, p_add, p_sub, p_mul, p_mod, p_fdiv, p_neg, p_int, p_intB, p_cmp, p_ixL, p_ixT, p_ixF, p_lenL, p_lenT, p_lenF, p_listT, p_listL, p_tupleL, p_tupleT, List.getElem?_cons_zero, List.getElem?_cons_succ, List.getElem?_nil, List.set_cons_zero, List.set_cons_succ, List.length_cons, List.length_nil, Option.map_some, Option.map_none, List.cons_append, List.nil_append, List.append_nil, Bool.and_true, Bool.true_and, Bool.or_true, Bool.true_or, Bool.and_false, Bool.false_and, Bool.or_false, Bool.false_or, Bool.not_true, Bool.not_false, decide_true, decide_false, e0]
  have hl : t.joins.length ≤ LIM := by
    have := (g.jo hN).2.2
    simp only [Tr.jo, List.length_map] at this
    exact Nat.le_trans (Nat.le_of_lt this) (by decide)
  have e2 := comp_ps (g := asgTup 3 (asgCons (asgSl 2) (asgCons (asgSl 3) (asgCons (asgSl 4) asgNil)))) (f := evSl j) (own := [1, 2, 3, 4]) (ps := t.joins.map fun p => (.tup [.int p.2.1, .int p.1, .int p.2.2], D.int (F p))) (seq_e e1 (items := (t.joins.map fun p => ((D.tup [.int p.2.1, .int p.1, .int p.2.2]), D.int (F p))).map (·.1)) (by simp [D.wk, D.sq, Function.comp_def, Tr.jo, tupI])) rfl (by rw [List.length_map]; exact hl) fun p hp => by
    obtain ⟨q, _, rfl⟩ := List.mem_map.mp hp
    refine ⟨[.v d, .unk, .v (.int q.2.1), .v (.int q.1), .v (.int q.2.2)], [.v d, .unk, .v (.int q.2.1), .v (.int q.1), .v (.int q.2.2)], ⟨.int (F q), false⟩, rfl, ?_, rfl, rfl, rfl⟩
    rw [sl_r, hj, slK_v]
  have e3 : (t.joins.map fun p => ((D.tup [.int p.2.1, .int p.1, .int p.2.2]), D.int (F p))).map (·.2) = t.joins.map fun p => D.int (F p) := by simp [Function.comp_def]
  rw [e3] at e2
  unfold tRows
  simp (config := { decide := false }) only [k1_ok, k1_ex, k1_no, ret_r, asF_r, asE_r, asI_r, asL_t, as_nil, as_e, as_l, isSet_r, isSet_v, isSet_o, fdR_s, fd_nil, fd_r, fd_l, fdL_v, fdL_o, prC_s, prB_s, prA_r, pr_r, gd_t, sl_r, slK_v, slK_o, k_r, tb_r, tbA_r, tC_s, tB_s, tA_r, t_r, noA_r, not_r, anA_t, anA_f, and_r, orA_t, orA_f, or_r, ifA_t, ifA_f, if_r, anV_t, anV_f, anU_r, andV_r, orV_t, orV_f, orU_r, orV_r, ntV_s, ntU_r, notV_r, tru_b, tru_i, tru_n, tru_t, tru_l, tru_f, free_r, free_u, free_v, free_o, asgK_t, asg_r, asgM_f, asgM_l, asgM_t, acK_s, ac_r, an_r, atL_t, atK_s, at_r, sq_t, sq_l, sq_f, nxK_s, setK_ok, setK_ex, set_r, seq_r, seqK_nx, seqK_rt, seqK_ro, seqK_bk, seqK_ct, seqK_ex, ifs_r, ifK_t, ifK_f, nx_r, bk_r, ct_r, rets_r, retK_ok, retK_ex, rs_r, rsK_v, rsK_o, retN_r, expr_r, exK_ok, exK_ex, crK_s, crL_ok, crL_ex, cr_r, nod_n, nod_1, call_r, ckA_r, callK_r, agR_s, ag_nil, ag_r, ag_l, agL_v, agL_o, ol_nil, ol_r, ol_l, olK_v, olK_o, bk_nil, bkr, bkl, bkK_v, bkK_o, si_r, siA_ok, siA_ex, siE_t, siB_ok, siC_s, siD_s, isOwn_r, isOwn_o, dfA_t, df_r, dfB_nx, dfB_rt, dfB_ex, ba_v, ba_o, ba_n, nm_n, nm_v, nm_o, p_add, p_sub, p_mul, p_mod, p_fdiv, p_neg, p_int, p_intB, p_cmp, p_ixL, p_ixT, p_ixF, p_lenL, p_lenT, p_lenF, p_listT, p_listL, p_tupleL, p_tupleT, List.getElem?_cons_zero, List.getElem?_cons_succ, List.getElem?_nil, List.set_cons_zero, List.set_cons_succ, List.length_cons, List.length_nil, Option.map_some, Option.map_none, List.cons_append, List.nil_append, List.append_nil, Bool.and_true, Bool.true_and, Bool.or_true, Bool.true_or, Bool.and_false, Bool.false_and, Bool.or_false, Bool.false_or, Bool.not_true, Bool.not_false, decide_true, decide_false, List.replicate, Nat.beq, Nat.reduceAdd, e2]
def ArmsOk (fe : Ev R) : Prop := ∀ (d : D) (t : Tr) (N : Int), IsTr d t → Grp 1 N t → N ≤ 60 → fe [.v d] = some (.ok ⟨.tup (t.arms.map .int), false⟩ [.v d])
def TailsOk (fe : Ev R) : Prop := ∀ (d : D) (t : Tr) (N : Int), IsTr d t → Grp 1 N t → N ≤ 60 → fe [.v d] = some (.ok ⟨.tup (t.tails.map .int), false⟩ [.v d])
theorem reaches_ok {joins : Ev R} (J : JoinsOk joins) : ArmsOk (defEv 1 4 (tRows joins 4)) := fun d t N h g hN => by
  rw [rows_ok J (F := fun p => p.2.2) (fun _ _ _ => rfl) h g hN]; simp [Tr.arms, Function.comp_def]
theorem starts_ok {joins : Ev R} (J : JoinsOk joins) : TailsOk (defEv 1 4 (tRows joins 3)) := fun d t N h g hN => by
  rw [rows_ok J (F := fun p => p.1) (fun _ _ _ => rfl) h g hN]; simp [Tr.tails, Function.comp_def]
def tSeen : EvS := sRet (evPr gTuple [.e (evComp (evSeq (.e (evPr gRevA [.late 0]))) (asgSl 2) evYes (evPr L3.gSub [.e (evPr gAdd [.e (evPr gLen [.late 0]), .e (evK (.int (2)))]), .late 2]) [1, 2])])
/-- a row of numbers as the program gets it -/
inductive IsRow : D → List Int → Prop
  | tup (ns : List Int) : IsRow (.tup (ns.map .int)) ns
  | lst (ns : List Int) : IsRow (.lst (ns.map .int)) ns
def SeenOk (fe : Ev R) : Prop := ∀ (d : D) (ns : List Int), IsRow d ns → ns.length ≤ 1000 → fe [.v d] = some (.ok ⟨.tup ((ns.reverse.map fun x => (ns.length : Int) + 2 - x).map .int), false⟩ [.v d])
theorem seen_ok : SeenOk (defEv 1 2 tSeen) := by
  intro d ns h hl
  have go : ∀ (rv : D) (fr : Bool), gRevA [d] = some ⟨rv, fr⟩ → rv.wk = some (ns.reverse.map D.int) → gLen [d] = some ⟨.int ns.length, false⟩ → defEv 1 2 tSeen [.v d] = some (.ok ⟨.tup ((ns.reverse.map fun x => (ns.length : Int) + 2 - x).map .int), false⟩ [.v d]) := fun rv fr h1 h2 h3 => by
    have e1 : evPr gRevA [.late 0] [.v d, .unk, .unk] = some (.ok ⟨rv, fr⟩ [.v d, .unk, .unk]) := by simp (config := { decide := false }) only [k1_ok, k1_ex, k1_no, ret_r, asF_r, asE_r, asI_r, asL_t, as_nil, as_e, as_l, isSet_r, isSet_v, isSet_o, fdR_s, fd_nil, fd_r, fd_l, fdL_v, fdL_o, prC_s, prB_s, prA_r, pr_r, gd_t, sl_r, slK_v, slK_o, k_r, tb_r, tbA_r, tC_s, tB_s, tA_r, t_r, noA_r, not_r, anA_t, anA_f, and_r, orA_t, orA_f, or_r, ifA_t, ifA_f, if_r, anV_t, anV_f, anU_r, andV_r, orV_t, orV_f, orU_r, orV_r, ntV_s, ntU_r, notV_r, tru_b, tru_i, tru_n, tru_t, tru_l, tru_f, free_r, free_u, free_v, free_o, asgK_t, asg_r, asgM_f, asgM_l, asgM_t, acK_s, ac_r, an_r, atL_t, atK_s, at_r, sq_t, sq_l, sq_f, nxK_s, setK_ok, setK_ex, set_r, seq_r, seqK_nx, seqK_rt, seqK_ro, seqK_bk, seqK_ct, seqK_ex, ifs_r, ifK_t, ifK_f, nx_r, bk_r, ct_r, rets_r, retK_ok, retK_ex, rs_r, rsK_v, rsK_o, retN_r, expr_r, exK_ok, exK_ex, crK_s, crL_ok, crL_ex, cr_r, nod_n, nod_1, call_r, ckA_r, callK_r, agR_s, ag_nil, ag_r, ag_l, agL_v, agL_o, ol_nil, ol_r, ol_l, olK_v, olK_o, bk_nil, bkr, bkl, bkK_v, bkK_o, si_r, siA_ok, siA_ex, siE_t, siB_ok, siC_s, siD_s, isOwn_r, isOwn_o, dfA_t, df_r, dfB_nx, dfB_rt, dfB_ex, ba_v, ba_o, ba_n, nm_n, nm_v, nm_o, p_add, p_sub, p_mul, p_mod, p_fdiv, p_neg, p_int, p_intB, p_cmp, p_ixL, p_ixT, p_ixF, p_lenL, p_lenT, p_lenF, p_listT, p_listL, p_tupleL, p_tupleT, List.getElem?_cons_zero, List.getElem?_cons_succ, List.getElem?_nil, List.set_cons_zero, List.set_cons_succ, List.length_cons, List.length_nil, Option.map_some, Option.map_none, List.cons_append, List.nil_append, List.append_nil, Bool.and_true, Bool.true_and, Bool.or_true, Bool.true_or, Bool.and_false, Bool.false_and, Bool.or_false, Bool.false_or, Bool.not_true, Bool.not_false, decide_true, decide_false, h1]
    have e2 := comp_ps (g := asgSl 2) (f := evPr L3.gSub [.e (evPr gAdd [.e (evPr gLen [.late 0]), .e (evK (.int (2)))]), .late 2]) (own := [1, 2]) (ps := ns.reverse.map fun x => (D.int x, D.int ((ns.length : Int) + 2 - x))) (seq_e e1 (items := (ns.reverse.map fun x => (D.int x, D.int ((ns.length : Int) + 2 - x))).map (·.1)) (by rw [h2]; simp [Function.comp_def])) rfl (by rw [List.length_map, List.length_reverse]; exact Nat.le_trans hl (by decide)) fun p hp => by
      obtain ⟨q, _, rfl⟩ := List.mem_map.mp hp
      exact ⟨[.v d, .unk, .v (.int q)], [.v d, .unk, .v (.int q)], ⟨.int ((ns.length : Int) + 2 - q), false⟩, rfl, by simp (config := { decide := false }) only [k1_ok, k1_ex, k1_no, ret_r, asF_r, asE_r, asI_r, asL_t, as_nil, as_e, as_l, isSet_r, isSet_v, isSet_o, fdR_s, fd_nil, fd_r, fd_l, fdL_v, fdL_o, prC_s, prB_s, prA_r, pr_r, gd_t, sl_r, slK_v, slK_o, k_r, tb_r, tbA_r, tC_s, tB_s, tA_r, t_r, noA_r, not_r, anA_t, anA_f, and_r, orA_t, orA_f, or_r, ifA_t, ifA_f, if_r, anV_t, anV_f, anU_r, andV_r, orV_t, orV_f, orU_r, orV_r, ntV_s, ntU_r, notV_r, tru_b, tru_i, tru_n, tru_t, tru_l, tru_f, free_r, free_u, free_v, free_o, asgK_t, asg_r, asgM_f, asgM_l, asgM_t, acK_s, ac_r, an_r, atL_t, atK_s, at_r, sq_t, sq_l, sq_f, nxK_s, setK_ok, setK_ex, set_r, seq_r, seqK_nx, seqK_rt, seqK_ro, seqK_bk, seqK_ct, seqK_ex, ifs_r, ifK_t, ifK_f, nx_r, bk_r, ct_r, rets_r, retK_ok, retK_ex, rs_r, rsK_v, rsK_o, retN_r, expr_r, exK_ok, exK_ex, crK_s, crL_ok, crL_ex, cr_r, nod_n, nod_1, call_r, ckA_r, callK_r, agR_s, ag_nil, ag_r, ag_l, agL_v, agL_o, ol_nil, ol_r, ol_l, olK_v, olK_o, bk_nil, bkr, bkl, bkK_v, bkK_o, si_r, siA_ok, siA_ex, siE_t, siB_ok, siC_s, siD_s, isOwn_r, isOwn_o, dfA_t, df_r, dfB_nx, dfB_rt, dfB_ex, ba_v, ba_o, ba_n, nm_n, nm_v, nm_o, p_add, p_sub, p_mul, p_mod, p_fdiv, p_neg, p_int, p_intB, p_cmp, p_ixL, p_ixT, p_ixF, p_lenL, p_lenT, p_lenF, p_listT, p_listL, p_tupleL, p_tupleT, List.getElem?_cons_zero, List.getElem?_cons_succ, List.getElem?_nil, List.set_cons_zero, List.set_cons_succ, List.length_cons, List.length_nil, Option.map_some, Option.map_none, List.cons_append, List.nil_append, List.append_nil, Bool.and_true, Bool.true_and, Bool.or_true, Bool.true_or, Bool.and_false, Bool.false_and, Bool.or_false, Bool.false_or, Bool.not_true, Bool.not_false, decide_true, decide_false, h3], rfl, rfl, rfl⟩
    have e3 : (ns.reverse.map fun x => (D.int x, D.int ((ns.length : Int) + 2 - x))).map (·.2) = (ns.reverse.map fun x => (ns.length : Int) + 2 - x).map D.int := by simp [Function.comp_def]
    rw [e3] at e2
    unfold tSeen
    simp (config := { decide := false }) only [k1_ok, k1_ex, k1_no, ret_r, asF_r, asE_r, asI_r, asL_t, as_nil, as_e, as_l, isSet_r, isSet_v, isSet_o, fdR_s, fd_nil, fd_r, fd_l, fdL_v, fdL_o, prC_s, prB_s, prA_r, pr_r, gd_t, sl_r, slK_v, slK_o, k_r, tb_r, tbA_r, tC_s, tB_s, tA_r, t_r, noA_r, not_r, anA_t, anA_f, and_r, orA_t, orA_f, or_r, ifA_t, ifA_f, if_r, anV_t, anV_f, anU_r, andV_r, orV_t, orV_f, orU_r, orV_r, ntV_s, ntU_r, notV_r, tru_b, tru_i, tru_n, tru_t, tru_l, tru_f, free_r, free_u, free_v, free_o, asgK_t, asg_r, asgM_f, asgM_l, asgM_t, acK_s, ac_r, an_r, atL_t, atK_s, at_r, sq_t, sq_l, sq_f, nxK_s, setK_ok, setK_ex, set_r, seq_r, seqK_nx, seqK_rt, seqK_ro, seqK_bk, seqK_ct, seqK_ex, ifs_r, ifK_t, ifK_f, nx_r, bk_r, ct_r, rets_r, retK_ok, retK_ex, rs_r, rsK_v, rsK_o, retN_r, expr_r, exK_ok, exK_ex, crK_s, crL_ok, crL_ex, cr_r, nod_n, nod_1, call_r, ckA_r, callK_r, agR_s, ag_nil, ag_r, ag_l, agL_v, agL_o, ol_nil, ol_r, ol_l, olK_v, olK_o, bk_nil, bkr, bkl, bkK_v, bkK_o, si_r, siA_ok, siA_ex, siE_t, siB_ok, siC_s, siD_s, isOwn_r, isOwn_o, dfA_t, df_r, dfB_nx, dfB_rt, dfB_ex, ba_v, ba_o, ba_n, nm_n, nm_v, nm_o, p_add, p_sub, p_mul, p_mod, p_fdiv, p_neg, p_int, p_intB, p_cmp, p_ixL, p_ixT, p_ixF, p_lenL, p_lenT, p_lenF, p_listT, p_listL, p_tupleL, p_tupleT, List.getElem?_cons_zero, List.getElem?_cons_succ, List.getElem?_nil, List.set_cons_zero, List.set_cons_succ, List.length_cons, List.length_nil, Option.map_some, Option.map_none, List.cons_append, List.nil_append, List.append_nil, Bool.and_true, Bool.true_and, Bool.or_true, Bool.true_or, Bool.and_false, Bool.false_and, Bool.or_false, Bool.false_or, Bool.not_true, Bool.not_false, decide_true, decide_false, List.replicate, Nat.beq, Nat.reduceAdd, e2]
  cases h with
  | tup => exact go (.tup (ns.map D.int).reverse) false rfl (by simp [D.wk, D.sq]) (by show some _ = some _; simp)
  | lst => exact go (.lst (ns.map D.int).reverse) true rfl (by simp [D.wk, D.sq]) (by show some _ = some _; simp)
end L3

/-! M11: the grouping of a row of reaches. -/
namespace L3
open PySem L2
abbrev oT : Ev Bool := evAndT (evT (.late 2)) (evTB (evPr (gEq id) [.e (evPr gIx [.late 2, .e (evPr gNeg [.e (evK (.int (1)))])]), .e (evPr gAdd [.late 3, .e (evK (.int (1)))])]))
abbrev oB : EvS := (sSeq (sExpr (evPop 2))
      (sSeq (sSet (asgSl 5) (evPop 1))
      (sSeq (sSet (asgSl 6) (evPop 1))
      (sExpr (evAppend 1 (evPr gTup [.e (evSl 6), .e (evSl 5)]))))))
def tOf : EvS :=
  sSeq (sSet (asgSl 1) (evPr gLst [.e (evK (.int (1)))]))
  (sSeq (sSet (asgSl 2) (evPr gLst []))
  (sSeq (sFor (evItm gEnK ([.e (evSl 0)] ++ [.e (evK (.int (1)))])) (asgTup 2 (asgCons (asgSl 3) (asgCons (asgSl 4) asgNil)))
    (sSeq (sExpr (evAppend 1 (evPr gAdd [.late 3, .e (evK (.int (1)))])))
    (sSeq (sExpr (evAppend 2 (evSl 4)))
    (sWhile (evAndT (evT (.late 2)) (evTB (evPr (gEq id) [.e (evPr gIx [.late 2, .e (evPr gNeg [.e (evK (.int (1)))])]), .e (evPr gAdd [.late 3, .e (evK (.int (1)))])])))
      (sSeq (sExpr (evPop 2))
      (sSeq (sSet (asgSl 5) (evPop 1))
      (sSeq (sSet (asgSl 6) (evPop 1))
      (sExpr (evAppend 1 (evPr gTup [.e (evSl 6), .e (evSl 5)])))))) FUEL))))
  (sRet (evPr gIx [.late 1, .e (evK (.int (0)))]))))
abbrev pD (P : List Tr) : List D := P.reverse.map Tr.d
abbrev uD (U : List Int) : List D := U.reverse.map D.int
theorem pD_cons (t : Tr) (P : List Tr) : pD (t :: P) = pD P ++ [t.d] := by simp [pD]
theorem uD_cons (u : Int) (U : List Int) : uD (u :: U) = uD U ++ [.int u] := by simp [uD]
theorem at_last {α : Type} {xs : List α} {x : α} : atI (xs ++ [x]) (-1) = some x := by
  unfold atI ixN
  rw [if_neg (by decide), if_pos (by rw [List.length_append]; simp; omega)]
  have : ((-1 : Int) + ((xs ++ [x]).length : Nat)).toNat = xs.length := by rw [List.length_append, List.length_singleton]; omega
  simp only [Option.bind_some, this]
  simp
theorem cls_len {e : Int} : ∀ (U : List Int) (P : List Tr), P.length = U.length + 1 → (cls e P U).1.length = (cls e P U).2.length + 1 ∧ (cls e P U).2.length ≤ U.length
  | [], P, h => by rw [cls_nil]; exact ⟨h, Nat.le_refl _⟩
  | u :: U, [], h => by simp at h
  | u :: U, [_], h => by simp at h
  | u :: U, r :: l :: P, h => by
    simp only [cls]
    split
    · have := cls_len (e := e) U (.node l r :: P) (by simpa using h)
      exact ⟨this.1, by have := this.2; simp only [List.length_cons]; omega⟩
    · exact ⟨by simpa using h, Nat.le_refl _⟩
theorem wh_cls {s0 s4 : Slot} {j : Int} : ∀ (U : List Int) (P : List Tr) (n : Nat) (s5 s6 : Slot), freeK (some s5) = true → freeK (some s6) = true → P.length = U.length + 1 → U.length < n → P.length < 10000 →
    ∃ s5' s6', freeK (some s5') = true ∧ freeK (some s6') = true ∧ sWhile oT oB n [s0, .own 0 (pD P), .own 0 (uD U), .v (.int j), s4, s5, s6] = some (.nx [s0, .own 0 (pD (cls (j + 1) P U).1), .own 0 (uD (cls (j + 1) P U).2), .v (.int j), s4, s5', s6'])
  | [], P, n, s5, s6, f5, f6, hl, hn, _ => by
    obtain ⟨n, rfl⟩ : ∃ m, n = m + 1 := ⟨n - 1, by omega⟩
    have em : (uD []).isEmpty = true := rfl
    refine ⟨s5, s6, f5, f6, ?_⟩
    rw [cls_nil]
    refine wh_f ?_
    unfold oT
    simp (config := { decide := false }) only [k1_ok, k1_ex, k1_no, ret_r, asF_r, asE_r, asI_r, asL_t, as_nil, as_e, as_l, isSet_r, isSet_v, isSet_o, fdR_s, fd_nil, fd_r, fd_l, fdL_v, fdL_o, prC_s, prB_s, prA_r, pr_r, gd_t, sl_r, slK_v, slK_o, k_r, tb_r, tbA_r, tC_s, tB_s, tA_r, t_r, noA_r, not_r, anA_t, anA_f, and_r, orA_t, orA_f, or_r, ifA_t, ifA_f, if_r, anV_t, anV_f, anU_r, andV_r, orV_t, orV_f, orU_r, orV_r, ntV_s, ntU_r, notV_r, tru_b, tru_i, tru_n, tru_t, tru_l, tru_f, free_r, free_u, free_v, free_o, asgK_t, asg_r, asgM_f, asgM_l, asgM_t, acK_s, ac_r, an_r, atL_t, atK_s, at_r, sq_t, sq_l, sq_f, nxK_s, setK_ok, setK_ex, set_r, seq_r, seqK_nx, seqK_rt, seqK_ro, seqK_bk, seqK_ct, seqK_ex, ifs_r, ifK_t, ifK_f, nx_r, bk_r, ct_r, rets_r, retK_ok, retK_ex, rs_r, rsK_v, rsK_o, retN_r, expr_r, exK_ok, exK_ex, crK_s, crL_ok, crL_ex, cr_r, nod_n, nod_1, call_r, ckA_r, callK_r, agR_s, ag_nil, ag_r, ag_l, agL_v, agL_o, ol_nil, ol_r, ol_l, olK_v, olK_o, bk_nil, bkr, bkl, bkK_v, bkK_o, si_r, siA_ok, siA_ex, siE_t, siB_ok, siC_s, siD_s, isOwn_r, isOwn_o, dfA_t, df_r, dfB_nx, dfB_rt, dfB_ex, ba_v, ba_o, ba_n, nm_n, nm_v, nm_o, p_add, p_sub, p_mul, p_mod, p_fdiv, p_neg, p_int, p_intB, p_cmp, p_ixL, p_ixT, p_ixF, p_lenL, p_lenT, p_lenF, p_listT, p_listL, p_tupleL, p_tupleT, List.getElem?_cons_zero, List.getElem?_cons_succ, List.getElem?_nil, List.set_cons_zero, List.set_cons_succ, List.length_cons, List.length_nil, Option.map_some, Option.map_none, List.cons_append, List.nil_append, List.append_nil, Bool.and_true, Bool.true_and, Bool.or_true, Bool.true_or, Bool.and_false, Bool.false_and, Bool.or_false, Bool.false_or, Bool.not_true, Bool.not_false, decide_true, decide_false, em]
  | u :: U, [], n, _, _, _, _, hl, _, _ => by simp at hl
  | u :: U, [_], n, _, _, _, _, hl, _, _ => by simp at hl
  | u :: U, r :: l :: P, n, s5, s6, f5, f6, hl, hn, hb => by
    simp only [List.length_cons] at hl hn hb
    obtain ⟨n, rfl⟩ : ∃ m, n = m + 1 := ⟨n - 1, by omega⟩
    have em : (uD U ++ [D.int u]).isEmpty = false := by simp
    rw [uD_cons, pD_cons, pD_cons]
    by_cases e : u = j + 1
    · have c1 : decide (u = j + 1) = true := decide_eq_true e
      obtain ⟨s5', s6', g5, g6, ih⟩ := wh_cls (s0 := s0) (s4 := s4) (j := j) U (.node l r :: P) n (.v r.d) (.v l.d) rfl rfl (by simpa using hl) (by omega) (by simp only [List.length_cons]; omega)
      refine ⟨s5', s6', g5, g6, ?_⟩
      have e2 : cls (j + 1) (r :: l :: P) (u :: U) = cls (j + 1) (.node l r :: P) U := by simp [cls, e]
      rw [e2]
      have hp : Nat.blt (pD P).length LIM = true := Nat.ble_eq_true_of_le (by simp only [pD, List.length_map, List.length_reverse]; have : 20000 ≤ LIM := (by decide); omega)
      have mt : mutable 0 = true := rfl
      have ht : ([l.d, r.d] : List D).length ≤ LIM := by show 2 ≤ LIM; decide
      have p1 : ∀ x, evPop 2 [s0, x, .own 0 (uD U ++ [.int u]), .v (.int j), s4, s5, s6] = some (.ok ⟨.int u, false⟩ [s0, x, .own 0 (uD U), .v (.int j), s4, s5, s6]) := fun x => pop_r (ds := uD U) rfl (by decide)
      have p2 : evPop 1 [s0, .own 0 (pD P ++ [l.d] ++ [r.d]), .own 0 (uD U), .v (.int j), s4, s5, s6] = some (.ok ⟨r.d, false⟩ [s0, .own 0 (pD P ++ [l.d]), .own 0 (uD U), .v (.int j), s4, s5, s6]) := pop_r (ds := pD P ++ [l.d]) rfl (by decide)
      have p3 : evPop 1 [s0, .own 0 (pD P ++ [l.d]), .own 0 (uD U), .v (.int j), s4, .v r.d, s6] = some (.ok ⟨l.d, false⟩ [s0, .own 0 (pD P), .own 0 (uD U), .v (.int j), s4, .v r.d, s6]) := pop_r (ds := pD P) rfl (by decide)
      rw [wh_t (ρ' := [s0, .own 0 (pD P ++ [l.d] ++ [r.d]), .own 0 (uD U ++ [.int u]), .v (.int j), s4, s5, s6]) (ρ2 := [s0, .own 0 (pD P ++ [.tup [l.d, r.d]]), .own 0 (uD U), .v (.int j), s4, .v r.d, .v l.d])]
      · rw [pD_cons] at ih; exact ih
      · unfold oT
        simp (config := { decide := false }) only [k1_ok, k1_ex, k1_no, ret_r, asF_r, asE_r, asI_r, asL_t, as_nil, as_e, as_l, isSet_r, isSet_v, isSet_o, fdR_s, fd_nil, fd_r, fd_l, fdL_v, fdL_o, prC_s, prB_s, prA_r, pr_r, gd_t, sl_r, slK_v, slK_o, k_r, tb_r, tbA_r, tC_s, tB_s, tA_r, t_r, noA_r, not_r, anA_t, anA_f, and_r, orA_t, orA_f, or_r, ifA_t, ifA_f, if_r, anV_t, anV_f, anU_r, andV_r, orV_t, orV_f, orU_r, orV_r, ntV_s, ntU_r, notV_r, tru_b, tru_i, tru_n, tru_t, tru_l, tru_f, free_r, free_u, free_v, free_o, asgK_t, asg_r, asgM_f, asgM_l, asgM_t, acK_s, ac_r, an_r, atL_t, atK_s, at_r, sq_t, sq_l, sq_f, nxK_s, setK_ok, setK_ex, set_r, seq_r, seqK_nx, seqK_rt, seqK_ro, seqK_bk, seqK_ct, seqK_ex, ifs_r, ifK_t, ifK_f, nx_r, bk_r, ct_r, rets_r, retK_ok, retK_ex, rs_r, rsK_v, rsK_o, retN_r, expr_r, exK_ok, exK_ex, crK_s, crL_ok, crL_ex, cr_r, nod_n, nod_1, call_r, ckA_r, callK_r, agR_s, ag_nil, ag_r, ag_l, agL_v, agL_o, ol_nil, ol_r, ol_l, olK_v, olK_o, bk_nil, bkr, bkl, bkK_v, bkK_o, si_r, siA_ok, siA_ex, siE_t, siB_ok, siC_s, siD_s, isOwn_r, isOwn_o, dfA_t, df_r, dfB_nx, dfB_rt, dfB_ex, ba_v, ba_o, ba_n, nm_n, nm_v, nm_o, p_add, p_sub, p_mul, p_mod, p_fdiv, p_neg, p_int, p_intB, p_cmp, p_ixL, p_ixT, p_ixF, p_lenL, p_lenT, p_lenF, p_listT, p_listL, p_tupleL, p_tupleT, List.getElem?_cons_zero, List.getElem?_cons_succ, List.getElem?_nil, List.set_cons_zero, List.set_cons_succ, List.length_cons, List.length_nil, Option.map_some, Option.map_none, List.cons_append, List.nil_append, List.append_nil, Bool.and_true, Bool.true_and, Bool.or_true, Bool.true_or, Bool.and_false, Bool.false_and, Bool.or_false, Bool.false_or, Bool.not_true, Bool.not_false, decide_true, decide_false, em, at_last, eqI, c1, id]
      · unfold oB
        simp (config := { decide := false }) only [k1_ok, k1_ex, k1_no, ret_r, asF_r, asE_r, asI_r, asL_t, as_nil, as_e, as_l, isSet_r, isSet_v, isSet_o, fdR_s, fd_nil, fd_r, fd_l, fdL_v, fdL_o, prC_s, prB_s, prA_r, pr_r, gd_t, sl_r, slK_v, slK_o, k_r, tb_r, tbA_r, tC_s, tB_s, tA_r, t_r, noA_r, not_r, anA_t, anA_f, and_r, orA_t, orA_f, or_r, ifA_t, ifA_f, if_r, anV_t, anV_f, anU_r, andV_r, orV_t, orV_f, orU_r, orV_r, ntV_s, ntU_r, notV_r, tru_b, tru_i, tru_n, tru_t, tru_l, tru_f, free_r, free_u, free_v, free_o, asgK_t, asg_r, asgM_f, asgM_l, asgM_t, acK_s, ac_r, an_r, atL_t, atK_s, at_r, sq_t, sq_l, sq_f, nxK_s, setK_ok, setK_ex, set_r, seq_r, seqK_nx, seqK_rt, seqK_ro, seqK_bk, seqK_ct, seqK_ex, ifs_r, ifK_t, ifK_f, nx_r, bk_r, ct_r, rets_r, retK_ok, retK_ex, rs_r, rsK_v, rsK_o, retN_r, expr_r, exK_ok, exK_ex, crK_s, crL_ok, crL_ex, cr_r, nod_n, nod_1, call_r, ckA_r, callK_r, agR_s, ag_nil, ag_r, ag_l, agL_v, agL_o, ol_nil, ol_r, ol_l, olK_v, olK_o, bk_nil, bkr, bkl, bkK_v, bkK_o, si_r, siA_ok, siA_ex, siE_t, siB_ok, siC_s, siD_s, isOwn_r, isOwn_o, dfA_t, df_r, dfB_nx, dfB_rt, dfB_ex, ba_v, ba_o, ba_n, nm_n, nm_v, nm_o, p_add, p_sub, p_mul, p_mod, p_fdiv, p_neg, p_int, p_intB, p_cmp, p_ixL, p_ixT, p_ixF, p_lenL, p_lenT, p_lenF, p_listT, p_listL, p_tupleL, p_tupleT, List.getElem?_cons_zero, List.getElem?_cons_succ, List.getElem?_nil, List.set_cons_zero, List.set_cons_succ, List.length_cons, List.length_nil, Option.map_some, Option.map_none, List.cons_append, List.nil_append, List.append_nil, Bool.and_true, Bool.true_and, Bool.or_true, Bool.true_or, Bool.and_false, Bool.false_and, Bool.or_false, Bool.false_or, Bool.not_true, Bool.not_false, decide_true, decide_false, p1, p2, p3, f5, f6, ap_r, apA_ok, apB_s, apC_t, hp, mt, p_tup ht]
    · have c1 : decide (u = j + 1) = false := decide_eq_false e
      refine ⟨s5, s6, f5, f6, ?_⟩
      rw [cls_no e, uD_cons, pD_cons, pD_cons]
      refine wh_f ?_
      unfold oT
      simp (config := { decide := false }) only [k1_ok, k1_ex, k1_no, ret_r, asF_r, asE_r, asI_r, asL_t, as_nil, as_e, as_l, isSet_r, isSet_v, isSet_o, fdR_s, fd_nil, fd_r, fd_l, fdL_v, fdL_o, prC_s, prB_s, prA_r, pr_r, gd_t, sl_r, slK_v, slK_o, k_r, tb_r, tbA_r, tC_s, tB_s, tA_r, t_r, noA_r, not_r, anA_t, anA_f, and_r, orA_t, orA_f, or_r, ifA_t, ifA_f, if_r, anV_t, anV_f, anU_r, andV_r, orV_t, orV_f, orU_r, orV_r, ntV_s, ntU_r, notV_r, tru_b, tru_i, tru_n, tru_t, tru_l, tru_f, free_r, free_u, free_v, free_o, asgK_t, asg_r, asgM_f, asgM_l, asgM_t, acK_s, ac_r, an_r, atL_t, atK_s, at_r, sq_t, sq_l, sq_f, nxK_s, setK_ok, setK_ex, set_r, seq_r, seqK_nx, seqK_rt, seqK_ro, seqK_bk, seqK_ct, seqK_ex, ifs_r, ifK_t, ifK_f, nx_r, bk_r, ct_r, rets_r, retK_ok, retK_ex, rs_r, rsK_v, rsK_o, retN_r, expr_r, exK_ok, exK_ex, crK_s, crL_ok, crL_ex, cr_r, nod_n, nod_1, call_r, ckA_r, callK_r, agR_s, ag_nil, ag_r, ag_l, agL_v, agL_o, ol_nil, ol_r, ol_l, olK_v, olK_o, bk_nil, bkr, bkl, bkK_v, bkK_o, si_r, siA_ok, siA_ex, siE_t, siB_ok, siC_s, siD_s, isOwn_r, isOwn_o, dfA_t, df_r, dfB_nx, dfB_rt, dfB_ex, ba_v, ba_o, ba_n, nm_n, nm_v, nm_o, p_add, p_sub, p_mul, p_mod, p_fdiv, p_neg, p_int, p_intB, p_cmp, p_ixL, p_ixT, p_ixF, p_lenL, p_lenT, p_lenF, p_listT, p_listL, p_tupleL, p_tupleT, List.getElem?_cons_zero, List.getElem?_cons_succ, List.getElem?_nil, List.set_cons_zero, List.set_cons_succ, List.length_cons, List.length_nil, Option.map_some, Option.map_none, List.cons_append, List.nil_append, List.append_nil, Bool.and_true, Bool.true_and, Bool.or_true, Bool.true_or, Bool.and_false, Bool.false_and, Bool.or_false, Bool.false_or, Bool.not_true, Bool.not_false, decide_true, decide_false, em, at_last, eqI, c1, id]
theorem for_of {s0 : Slot} : ∀ (rs : List Int) (j : Int) (P : List Tr) (U : List Int) (s3 s4 s5 s6 : Slot), freeK (some s3) = true → freeK (some s4) = true → freeK (some s5) = true → freeK (some s6) = true → P.length = U.length + 1 → U.length + rs.length < 5000 →
    ∃ s3' s4' s5' s6', evFor (asgTup 2 (asgCons (asgSl 3) (asgCons (asgSl 4) asgNil))) (sSeq (sExpr (evAppend 1 (evPr gAdd [.late 3, .e (evK (.int (1)))]))) (sSeq (sExpr (evAppend 2 (evSl 4))) (sWhile oT oB FUEL))) (enD j (rs.map .int)) [s0, .own 0 (pD P), .own 0 (uD U), s3, s4, s5, s6] =
      some (.nx [s0, .own 0 (pD (ofs j rs (P, U)).1), .own 0 (uD (ofs j rs (P, U)).2), s3', s4', s5', s6'])
  | [], j, P, U, s3, s4, s5, s6, _, _, _, _, _, _ => ⟨s3, s4, s5, s6, rfl⟩
  | r :: rs, j, P, U, s3, s4, s5, s6, f3, f4, f5, f6, hl, hb => by
    simp only [List.length_cons] at hb
    obtain ⟨s5', s6', g5, g6, e⟩ := wh_cls (s0 := s0) (s4 := .v (.int r)) (j := j) (r :: U) (.leaf (j + 1) :: P) FUEL s5 s6 f5 f6 (by simp [hl]) (by have : 5001 ≤ FUEL := (by decide); simp only [List.length_cons]; omega) (by simp only [List.length_cons]; omega)
    obtain ⟨q1, q2⟩ := cls_len (e := j + 1) (r :: U) (.leaf (j + 1) :: P) (by simp [hl])
    simp only [List.length_cons] at q2
    obtain ⟨s3', s4', s5'', s6'', ih⟩ := for_of (s0 := s0) rs (j + 1) (cls (j + 1) (.leaf (j + 1) :: P) (r :: U)).1 (cls (j + 1) (.leaf (j + 1) :: P) (r :: U)).2 (.v (.int j)) (.v (.int r)) s5' s6' rfl rfl g5 g6 q1 (by omega)
    have l1 : Nat.blt (pD P).length LIM = true := Nat.ble_eq_true_of_le (by simp only [pD, List.length_map, List.length_reverse]; have : 20000 ≤ LIM := (by decide); omega)
    have l2 : Nat.blt (uD U).length LIM = true := Nat.ble_eq_true_of_le (by simp only [uD, List.length_map, List.length_reverse]; have : 20000 ≤ LIM := (by decide); omega)
    have mt : mutable 0 = true := rfl
    have g : asgTup 2 (asgCons (asgSl 3) (asgCons (asgSl 4) asgNil)) ⟨.tup [.int j, .int r], false⟩ [s0, .own 0 (pD P), .own 0 (uD U), s3, s4, s5, s6] = some [s0, .own 0 (pD P), .own 0 (uD U), .v (.int j), .v (.int r), s5, s6] := by
      simp (config := { decide := false }) only [k1_ok, k1_ex, k1_no, ret_r, asF_r, asE_r, asI_r, asL_t, as_nil, as_e, as_l, isSet_r, isSet_v, isSet_o, fdR_s, fd_nil, fd_r, fd_l, fdL_v, fdL_o, prC_s, prB_s, prA_r, pr_r, gd_t, sl_r, slK_v, slK_o, k_r, tb_r, tbA_r, tC_s, tB_s, tA_r, t_r, noA_r, not_r, anA_t, anA_f, and_r, orA_t, orA_f, or_r, ifA_t, ifA_f, if_r, anV_t, anV_f, anU_r, andV_r, orV_t, orV_f, orU_r, orV_r, ntV_s, ntU_r, notV_r, tru_b, tru_i, tru_n, tru_t, tru_l, tru_f, free_r, free_u, free_v, free_o, asgK_t, asg_r, asgM_f, asgM_l, asgM_t, acK_s, ac_r, an_r, atL_t, atK_s, at_r, sq_t, sq_l, sq_f, nxK_s, setK_ok, setK_ex, set_r, seq_r, seqK_nx, seqK_rt, seqK_ro, seqK_bk, seqK_ct, seqK_ex, ifs_r, ifK_t, ifK_f, nx_r, bk_r, ct_r, rets_r, retK_ok, retK_ex, rs_r, rsK_v, rsK_o, retN_r, expr_r, exK_ok, exK_ex, crK_s, crL_ok, crL_ex, cr_r, nod_n, nod_1, call_r, ckA_r, callK_r, agR_s, ag_nil, ag_r, ag_l, agL_v, agL_o, ol_nil, ol_r, ol_l, olK_v, olK_o, bk_nil, bkr, bkl, bkK_v, bkK_o, si_r, siA_ok, siA_ex, siE_t, siB_ok, siC_s, siD_s, isOwn_r, isOwn_o, dfA_t, df_r, dfB_nx, dfB_rt, dfB_ex, ba_v, ba_o, ba_n, nm_n, nm_v, nm_o, p_add, p_sub, p_mul, p_mod, p_fdiv, p_neg, p_int, p_intB, p_cmp, p_ixL, p_ixT, p_ixF, p_lenL, p_lenT, p_lenF, p_listT, p_listL, p_tupleL, p_tupleT, List.getElem?_cons_zero, List.getElem?_cons_succ, List.getElem?_nil, List.set_cons_zero, List.set_cons_succ, List.length_cons, List.length_nil, Option.map_some, Option.map_none, List.cons_append, List.nil_append, List.append_nil, Bool.and_true, Bool.true_and, Bool.or_true, Bool.true_or, Bool.and_false, Bool.false_and, Bool.or_false, Bool.false_or, Bool.not_true, Bool.not_false, decide_true, decide_false, Nat.beq, Nat.reduceAdd, f3, f4]
    rw [pD_cons, uD_cons] at e
    refine ⟨s3', s4', s5'', s6'', (for_nx g ?_).trans ih⟩
    generalize sWhile oT oB FUEL = Wh at e ⊢
    simp (config := { decide := false }) only [k1_ok, k1_ex, k1_no, ret_r, asF_r, asE_r, asI_r, asL_t, as_nil, as_e, as_l, isSet_r, isSet_v, isSet_o, fdR_s, fd_nil, fd_r, fd_l, fdL_v, fdL_o, prC_s, prB_s, prA_r, pr_r, gd_t, sl_r, slK_v, slK_o, k_r, tb_r, tbA_r, tC_s, tB_s, tA_r, t_r, noA_r, not_r, anA_t, anA_f, and_r, orA_t, orA_f, or_r, ifA_t, ifA_f, if_r, anV_t, anV_f, anU_r, andV_r, orV_t, orV_f, orU_r, orV_r, ntV_s, ntU_r, notV_r, tru_b, tru_i, tru_n, tru_t, tru_l, tru_f, free_r, free_u, free_v, free_o, asgK_t, asg_r, asgM_f, asgM_l, asgM_t, acK_s, ac_r, an_r, atL_t, atK_s, at_r, sq_t, sq_l, sq_f, nxK_s, setK_ok, setK_ex, set_r, seq_r, seqK_nx, seqK_rt, seqK_ro, seqK_bk, seqK_ct, seqK_ex, ifs_r, ifK_t, ifK_f, nx_r, bk_r, ct_r, rets_r, retK_ok, retK_ex, rs_r, rsK_v, rsK_o, retN_r, expr_r, exK_ok, exK_ex, crK_s, crL_ok, crL_ex, cr_r, nod_n, nod_1, call_r, ckA_r, callK_r, agR_s, ag_nil, ag_r, ag_l, agL_v, agL_o, ol_nil, ol_r, ol_l, olK_v, olK_o, bk_nil, bkr, bkl, bkK_v, bkK_o, si_r, siA_ok, siA_ex, siE_t, siB_ok, siC_s, siD_s, isOwn_r, isOwn_o, dfA_t, df_r, dfB_nx, dfB_rt, dfB_ex, ba_v, ba_o, ba_n, nm_n, nm_v, nm_o, p_add, p_sub, p_mul, p_mod, p_fdiv, p_neg, p_int, p_intB, p_cmp, p_ixL, p_ixT, p_ixF, p_lenL, p_lenT, p_lenF, p_listT, p_listL, p_tupleL, p_tupleT, List.getElem?_cons_zero, List.getElem?_cons_succ, List.getElem?_nil, List.set_cons_zero, List.set_cons_succ, List.length_cons, List.length_nil, Option.map_some, Option.map_none, List.cons_append, List.nil_append, List.append_nil, Bool.and_true, Bool.true_and, Bool.or_true, Bool.true_or, Bool.and_false, Bool.false_and, Bool.or_false, Bool.false_or, Bool.not_true, Bool.not_false, decide_true, decide_false, ap_r, apA_ok, apB_s, apC_t, l1, l2, mt]
    exact e
def OfOk (fe : Ev R) : Prop := ∀ (d : D) (t : Tr) (N : Int), IsRow d t.arms → Grp 1 N t → N ≤ 60 → fe [.v d] = some (.ok ⟨t.d, false⟩ [.v d])
theorem of_ok : OfOk (defEv 1 6 tOf) := by
  intro d t N h g hN
  have len : t.arms.length ≤ 60 := by
    have := (g.jo hN).2.2
    have := g.cuts.2.2.1
    simp only [Tr.arms, List.length_map]; omega
  obtain ⟨s3, s4, s5, s6, e⟩ := for_of (s0 := .v d) t.arms 1 [.leaf 1] [] .unk .unk .unk .unk rfl rfl rfl rfl rfl (by simp; omega)
  rw [ofs_whole g] at e
  have hk : gEnK [d, .int 1] = some (enD 1 (t.arms.map .int)) := by
    cases h <;> rfl
  have hi : ∀ a b, evItm gEnK ([.e (evSl 0)] ++ [.e (evK (.int 1))]) [.v d, a, b, .unk, .unk, .unk, .unk] = some (.ok (enD 1 (t.arms.map .int), none) [.v d, a, b, .unk, .unk, .unk, .unk]) := fun a b =>
    itm_r (rs := [.inr d, .inr (.int 1)]) (ds := [d, .int 1]) (ρ' := [.v d, a, b, .unk, .unk, .unk, .unk]) (by simp (config := { decide := false }) only [k1_ok, k1_ex, k1_no, ret_r, asF_r, asE_r, asI_r, asL_t, as_nil, as_e, as_l, isSet_r, isSet_v, isSet_o, fdR_s, fd_nil, fd_r, fd_l, fdL_v, fdL_o, prC_s, prB_s, prA_r, pr_r, gd_t, sl_r, slK_v, slK_o, k_r, tb_r, tbA_r, tC_s, tB_s, tA_r, t_r, noA_r, not_r, anA_t, anA_f, and_r, orA_t, orA_f, or_r, ifA_t, ifA_f, if_r, anV_t, anV_f, anU_r, andV_r, orV_t, orV_f, orU_r, orV_r, ntV_s, ntU_r, notV_r, tru_b, tru_i, tru_n, tru_t, tru_l, tru_f, free_r, free_u, free_v, free_o, asgK_t, asg_r, asgM_f, asgM_l, asgM_t, acK_s, ac_r, an_r, atL_t, atK_s, at_r, sq_t, sq_l, sq_f, nxK_s, setK_ok, setK_ex, set_r, seq_r, seqK_nx, seqK_rt, seqK_ro, seqK_bk, seqK_ct, seqK_ex, ifs_r, ifK_t, ifK_f, nx_r, bk_r, ct_r, rets_r, retK_ok, retK_ex, rs_r, rsK_v, rsK_o, retN_r, expr_r, exK_ok, exK_ex, crK_s, crL_ok, crL_ex, cr_r, nod_n, nod_1, call_r, ckA_r, callK_r, agR_s, ag_nil, ag_r, ag_l, agL_v, agL_o, ol_nil, ol_r, ol_l, olK_v, olK_o, bk_nil, bkr, bkl, bkK_v, bkK_o, si_r, siA_ok, siA_ex, siE_t, siB_ok, siC_s, siD_s, isOwn_r, isOwn_o, dfA_t, df_r, dfB_nx, dfB_rt, dfB_ex, ba_v, ba_o, ba_n, nm_n, nm_v, nm_o, p_add, p_sub, p_mul, p_mod, p_fdiv, p_neg, p_int, p_intB, p_cmp, p_ixL, p_ixT, p_ixF, p_lenL, p_lenT, p_lenF, p_listT, p_listL, p_tupleL, p_tupleT, List.getElem?_cons_zero, List.getElem?_cons_succ, List.getElem?_nil, List.set_cons_zero, List.set_cons_succ, List.length_cons, List.length_nil, Option.map_some, Option.map_none, List.cons_append, List.nil_append, List.append_nil, Bool.and_true, Bool.true_and, Bool.or_true, Bool.true_or, Bool.and_false, Bool.false_and, Bool.or_false, Bool.false_or, Bool.not_true, Bool.not_false, decide_true, decide_false]) (by simp (config := { decide := false }) only [k1_ok, k1_ex, k1_no, ret_r, asF_r, asE_r, asI_r, asL_t, as_nil, as_e, as_l, isSet_r, isSet_v, isSet_o, fdR_s, fd_nil, fd_r, fd_l, fdL_v, fdL_o, prC_s, prB_s, prA_r, pr_r, gd_t, sl_r, slK_v, slK_o, k_r, tb_r, tbA_r, tC_s, tB_s, tA_r, t_r, noA_r, not_r, anA_t, anA_f, and_r, orA_t, orA_f, or_r, ifA_t, ifA_f, if_r, anV_t, anV_f, anU_r, andV_r, orV_t, orV_f, orU_r, orV_r, ntV_s, ntU_r, notV_r, tru_b, tru_i, tru_n, tru_t, tru_l, tru_f, free_r, free_u, free_v, free_o, asgK_t, asg_r, asgM_f, asgM_l, asgM_t, acK_s, ac_r, an_r, atL_t, atK_s, at_r, sq_t, sq_l, sq_f, nxK_s, setK_ok, setK_ex, set_r, seq_r, seqK_nx, seqK_rt, seqK_ro, seqK_bk, seqK_ct, seqK_ex, ifs_r, ifK_t, ifK_f, nx_r, bk_r, ct_r, rets_r, retK_ok, retK_ex, rs_r, rsK_v, rsK_o, retN_r, expr_r, exK_ok, exK_ex, crK_s, crL_ok, crL_ex, cr_r, nod_n, nod_1, call_r, ckA_r, callK_r, agR_s, ag_nil, ag_r, ag_l, agL_v, agL_o, ol_nil, ol_r, ol_l, olK_v, olK_o, bk_nil, bkr, bkl, bkK_v, bkK_o, si_r, siA_ok, siA_ex, siE_t, siB_ok, siC_s, siD_s, isOwn_r, isOwn_o, dfA_t, df_r, dfB_nx, dfB_rt, dfB_ex, ba_v, ba_o, ba_n, nm_n, nm_v, nm_o, p_add, p_sub, p_mul, p_mod, p_fdiv, p_neg, p_int, p_intB, p_cmp, p_ixL, p_ixT, p_ixF, p_lenL, p_lenT, p_lenF, p_listT, p_listL, p_tupleL, p_tupleT, List.getElem?_cons_zero, List.getElem?_cons_succ, List.getElem?_nil, List.set_cons_zero, List.set_cons_succ, List.length_cons, List.length_nil, Option.map_some, Option.map_none, List.cons_append, List.nil_append, List.append_nil, Bool.and_true, Bool.true_and, Bool.or_true, Bool.true_or, Bool.and_false, Bool.false_and, Bool.or_false, Bool.false_or, Bool.not_true, Bool.not_false, decide_true, decide_false]) hk
  have e2 := (for_r (g := asgTup 2 (asgCons (asgSl 3) (asgCons (asgSl 4) asgNil))) (body := sSeq (sExpr (evAppend 1 (evPr gAdd [.late 3, .e (evK (.int (1)))]))) (sSeq (sExpr (evAppend 2 (evSl 4))) (sWhile oT oB FUEL))) (hi (.own 0 [.int 1]) (.own 0 []))).trans e
  have l0 : ([] : List D).length ≤ LIM := Nat.zero_le _
  have l1 : ([.int 1] : List D).length ≤ LIM := by show 1 ≤ LIM; decide
  unfold tOf
  generalize hB : sFor (evItm gEnK ([.e (evSl 0)] ++ [.e (evK (.int (1)))])) (asgTup 2 (asgCons (asgSl 3) (asgCons (asgSl 4) asgNil))) _ = Fo
  have e3 : Fo [.v d, .own 0 [.int 1], .own 0 [], .unk, .unk, .unk, .unk] = some (.nx [.v d, .own 0 [t.d], .own 0 [], s3, s4, s5, s6]) := by
    rw [← hB]; exact e2
  simp (config := { decide := false }) only [k1_ok, k1_ex, k1_no, ret_r, asF_r, asE_r, asI_r, asL_t, as_nil, as_e, as_l, isSet_r, isSet_v, isSet_o, fdR_s, fd_nil, fd_r, fd_l, fdL_v, fdL_o, prC_s, prB_s, prA_r, pr_r, gd_t, sl_r, slK_v, slK_o, k_r, tb_r, tbA_r, tC_s, tB_s, tA_r, t_r, noA_r, not_r, anA_t, anA_f, and_r, orA_t, orA_f, or_r, ifA_t, ifA_f, if_r, anV_t, anV_f, anU_r, andV_r, orV_t, orV_f, orU_r, orV_r, ntV_s, ntU_r, notV_r, tru_b, tru_i, tru_n, tru_t, tru_l, tru_f, free_r, free_u, free_v, free_o, asgK_t, asg_r, asgM_f, asgM_l, asgM_t, acK_s, ac_r, an_r, atL_t, atK_s, at_r, sq_t, sq_l, sq_f, nxK_s, setK_ok, setK_ex, set_r, seq_r, seqK_nx, seqK_rt, seqK_ro, seqK_bk, seqK_ct, seqK_ex, ifs_r, ifK_t, ifK_f, nx_r, bk_r, ct_r, rets_r, retK_ok, retK_ex, rs_r, rsK_v, rsK_o, retN_r, expr_r, exK_ok, exK_ex, crK_s, crL_ok, crL_ex, cr_r, nod_n, nod_1, call_r, ckA_r, callK_r, agR_s, ag_nil, ag_r, ag_l, agL_v, agL_o, ol_nil, ol_r, ol_l, olK_v, olK_o, bk_nil, bkr, bkl, bkK_v, bkK_o, si_r, siA_ok, siA_ex, siE_t, siB_ok, siC_s, siD_s, isOwn_r, isOwn_o, dfA_t, df_r, dfB_nx, dfB_rt, dfB_ex, ba_v, ba_o, ba_n, nm_n, nm_v, nm_o, p_add, p_sub, p_mul, p_mod, p_fdiv, p_neg, p_int, p_intB, p_cmp, p_ixL, p_ixT, p_ixF, p_lenL, p_lenT, p_lenF, p_listT, p_listL, p_tupleL, p_tupleT, List.getElem?_cons_zero, List.getElem?_cons_succ, List.getElem?_nil, List.set_cons_zero, List.set_cons_succ, List.length_cons, List.length_nil, Option.map_some, Option.map_none, List.cons_append, List.nil_append, List.append_nil, Bool.and_true, Bool.true_and, Bool.or_true, Bool.true_or, Bool.and_false, Bool.false_and, Bool.or_false, Bool.false_or, Bool.not_true, Bool.not_false, decide_true, decide_false, List.replicate, Nat.beq, Nat.reduceAdd, p_lst l0, p_lst l1, e3, at0]
end L3

/-! M12: from behind. -/
namespace L3
open PySem L2
def tMir (of seen starts : Ev R) : EvS := sRet (evCall of [.e (evCall seen [.e (evCall starts [.e (evSl 0)])])])
def MirOk (fe : Ev R) : Prop := ∀ (d : D) (t : Tr) (N : Int), IsTr d t → Grp 1 N t → N ≤ 60 → fe [.v d] = some (.ok ⟨(t.beh N).d, false⟩ [.v d])
theorem beh_tails {t : Tr} {a b n : Int} (h : Grp a b t) : (t.beh n).tails = t.arms.reverse.map fun x => n + 1 - x := by
  simp only [Tr.arms, Tr.tails, beh_joins h, List.map_map, ← List.map_reverse]
  rfl
theorem beh_beh : ∀ (t : Tr) (n : Int), (t.beh n).beh n = t
  | .leaf i, n => by simp only [Tr.beh]; congr 1; omega
  | .node l r, n => by simp only [Tr.beh, beh_beh l, beh_beh r]
theorem beh_whole {t : Tr} {N : Int} (g : Grp 1 N t) : Grp 1 N (t.beh N) := by
  have q := beh_grp (n := N) g
  have e1 : N + 1 - N = 1 := by omega
  have e2 : N + 1 - 1 = N := by omega
  rw [e1, e2] at q
  exact q
theorem rows_len {t : Tr} {N : Int} (g : Grp 1 N t) : (t.tails.length : Int) = N - 1 ∧ (t.arms.length : Int) = N - 1 := by
  have := g.cuts.2.2.1
  simp only [Tr.tails, Tr.arms, List.length_map]
  omega
theorem mir_ok {of seen starts : Ev R} (O : OfOk of) (S : SeenOk seen) (T : TailsOk starts) : MirOk (defEv 1 0 (tMir of seen starts)) := by
  intro d t N h g hN
  have e1 := T d t N h g hN
  have ln := (rows_len g).1
  have e2 := S (.tup (t.tails.map .int)) t.tails (.tup _) (by omega)
  have e4 : (t.tails.reverse.map fun x => (t.tails.length : Int) + 2 - x) = (t.beh N).arms := by
    rw [beh_arms g]
    have : (t.tails.length : Int) + 2 = N + 1 := by omega
    rw [this]
  rw [e4] at e2
  have e3 := O (.tup ((t.beh N).arms.map .int)) (t.beh N) N (.tup _) (beh_whole g) hN
  unfold tMir
  simp (config := { decide := false }) only [k1_ok, k1_ex, k1_no, ret_r, asF_r, asE_r, asI_r, asL_t, as_nil, as_e, as_l, isSet_r, isSet_v, isSet_o, fdR_s, fd_nil, fd_r, fd_l, fdL_v, fdL_o, prC_s, prB_s, prA_r, pr_r, gd_t, sl_r, slK_v, slK_o, k_r, tb_r, tbA_r, tC_s, tB_s, tA_r, t_r, noA_r, not_r, anA_t, anA_f, and_r, orA_t, orA_f, or_r, ifA_t, ifA_f, if_r, anV_t, anV_f, anU_r, andV_r, orV_t, orV_f, orU_r, orV_r, ntV_s, ntU_r, notV_r, tru_b, tru_i, tru_n, tru_t, tru_l, tru_f, free_r, free_u, free_v, free_o, asgK_t, asg_r, asgM_f, asgM_l, asgM_t, acK_s, ac_r, an_r, atL_t, atK_s, at_r, sq_t, sq_l, sq_f, nxK_s, setK_ok, setK_ex, set_r, seq_r, seqK_nx, seqK_rt, seqK_ro, seqK_bk, seqK_ct, seqK_ex, ifs_r, ifK_t, ifK_f, nx_r, bk_r, ct_r, rets_r, retK_ok, retK_ex, rs_r, rsK_v, rsK_o, retN_r, expr_r, exK_ok, exK_ex, crK_s, crL_ok, crL_ex, cr_r, nod_n, nod_1, call_r, ckA_r, callK_r, agR_s, ag_nil, ag_r, ag_l, agL_v, agL_o, ol_nil, ol_r, ol_l, olK_v, olK_o, bk_nil, bkr, bkl, bkK_v, bkK_o, si_r, siA_ok, siA_ex, siE_t, siB_ok, siC_s, siD_s, isOwn_r, isOwn_o, dfA_t, df_r, dfB_nx, dfB_rt, dfB_ex, ba_v, ba_o, ba_n, nm_n, nm_v, nm_o, p_add, p_sub, p_mul, p_mod, p_fdiv, p_neg, p_int, p_intB, p_cmp, p_ixL, p_ixT, p_ixF, p_lenL, p_lenT, p_lenF, p_listT, p_listL, p_tupleL, p_tupleT, List.getElem?_cons_zero, List.getElem?_cons_succ, List.getElem?_nil, List.set_cons_zero, List.set_cons_succ, List.length_cons, List.length_nil, Option.map_some, Option.map_none, List.cons_append, List.nil_append, List.append_nil, Bool.and_true, Bool.true_and, Bool.or_true, Bool.true_or, Bool.and_false, Bool.false_and, Bool.or_false, Bool.false_or, Bool.not_true, Bool.not_false, decide_true, decide_false, List.replicate, Nat.beq, Nat.reduceAdd, e1, e2, e3]
theorem pln_d : ∀ (t : Tr) (n : Nat), t.dep < n → Pln n t.d
  | .leaf i, n + 1, _ => .int i
  | .node l r, n + 1, h => by
    simp only [Tr.dep] at h
    refine .tup (fun d hd => ?_) (by show 2 ≤ LIM; decide)
    simp only [List.mem_cons, List.not_mem_nil, or_false] at hd
    rcases hd with rfl | rfl
    · exact pln_d l n (by omega)
    · exact pln_d r n (by omega)
theorem pln_row {ns : List Int} {n : Nat} (h : ns.length ≤ LIM) : Pln (n + 2) (.tup (ns.map .int)) :=
  .tup (fun d hd => by obtain ⟨i, _, rfl⟩ := List.mem_map.mp hd; exact .int i) (by rw [List.length_map]; exact h)
theorem soft_eq : ∀ t : Tr, D.eqB t.soft t.soft = true ∧ t.soft.dep ≤ t.dep + 1
  | .leaf i => by
    refine ⟨?_, ?_⟩
    · unfold Tr.soft D.eqB
      exact beq_self_eq_true i
    · have h1 : (D.int i).dep = 1 ∨ (D.int i).dep = 0 := by first | exact .inl rfl | exact .inr rfl
      simp only [Tr.soft, Tr.dep]; omega
  | .node l r => by
    have h1 := soft_eq l
    have h2 := soft_eq r
    refine ⟨by simp [Tr.soft, D.eqB, D.eqBs, h1.1, h2.1], ?_⟩
    have e : (Tr.node l r).soft.dep = max l.soft.dep (max r.soft.dep 0) + 1 := by simp [Tr.soft, D.dep, D.deps]
    rw [e]
    simp only [Tr.dep]
    omega
/-- comprehensions whose first turn may freeze what they read -/
theorem loop_inv {g : TgE} {f : Ev R} {own : List Nat} {I : Sls → Prop} : ∀ {ps : List (D × D)} {acc : List D} {ρ : Sls}, I (wipeS ρ own) → acc.length + ps.length ≤ LIM →
    (∀ p ∈ ps, ∀ w, I w → ∃ ρ2 ρ4 r, g ⟨p.1, false⟩ w = some ρ2 ∧ f ρ2 = some (.ok r ρ4) ∧ r.d = p.2 ∧ noOwn ρ4 own = true ∧ I (wipeS ρ4 own)) →
    ∃ ρ', cLoop g evYes f own (ps.map (·.1)) acc ρ = some (acc ++ ps.map (·.2), ρ')
  | [], acc, ρ, _, _, _ => ⟨ρ, by simp [cLoop]⟩
  | p :: ps, acc, ρ, hI, hl, H => by
    obtain ⟨ρ2, ρ4, r, h1, h2, h3, h5, h6⟩ := H p List.mem_cons_self _ hI
    simp only [List.length_cons] at hl
    obtain ⟨ρ', e⟩ := loop_inv (ps := ps) (acc := acc ++ [p.2]) (ρ := ρ4) h6 (by simp; omega) fun x hx => H x (List.mem_cons_of_mem _ hx)
    refine ⟨ρ', ?_⟩
    have hb : (noOwn ρ4 own && Nat.blt acc.length LIM) = true := by
      rw [h5, Bool.true_and]
      exact Nat.ble_eq_true_of_le (by omega)
    have y : evYes ρ2 = some (.ok true ρ2) := rfl
    simp only [List.map_cons, cLoop, h1, y, h2, hb, h3, e]
    simp
theorem comp_inv {fi : EvI} {g : TgE} {f : Ev R} {own : List Nat} {I : Sls → Prop} {ps : List (D × D)} {ρ ρ1 : Sls} (hf : fi ρ = some (.ok (ps.map (·.1), none) ρ1)) (hn : noOwn ρ1 own = true) (hI : I (wipeS ρ1 own)) (hl : ps.length ≤ LIM)
    (H : ∀ p ∈ ps, ∀ w, I w → ∃ ρ2 ρ4 r, g ⟨p.1, false⟩ w = some ρ2 ∧ f ρ2 = some (.ok r ρ4) ∧ r.d = p.2 ∧ noOwn ρ4 own = true ∧ I (wipeS ρ4 own)) :
    ∃ ρ', evComp fi g evYes f own ρ = some (.ok ⟨.lst (ps.map (·.2)), true⟩ ρ') := by
  obtain ⟨ρ', e⟩ := loop_inv (acc := []) (ρ := ρ1) hI (by simpa using hl) H
  have c : cRun g evYes f own (ps.map (·.1)) ρ1 = some (ps.map (·.2), restS ρ' ρ1 own) := by
    unfold cRun
    simp only [hn, e, List.nil_append]
  refine ⟨restS ρ' ρ1 own, ?_⟩
  show (fi.bind _) ρ = _
  unfold Ev.bind
  simp only [hf, c]
end L3

/-! M13: a turn of the law of rows from behind. -/
namespace L3
open PySem L2
section
variable (take grp soft beh same mir tails arms reach start : Ev R)
def rTurn : EvS :=
    (sSeq (sSet (asgSl 2) (evPr gAdd [.e (evK (.int (1))), .e (evCall take [.late 0, .e (evK (.int (16)))])]))
    (sSeq (sSet (asgSl 3) (evCall grp [.late 0, .e (evK (.int (1))), .e (evSl 2)]))
    (sSeq (sPar 4 5 (evCall soft [.e (evSl 3)]) (evCall beh [.e (evSl 3), .e (evSl 2)]))
    (sSeq (sIf (evNotT (evT (.e (evCall same [.e (evPr gLst [.e (evCall mir [.e (evSl 3)]), .e (evCall mir [.e (evSl 4)]), .e (evCall mir [.e (evSl 5)])]), .e (evPr gLst [.e (evSl 5), .e (evSl 5), .e (evSl 3)])]))))
      (sRet (evK (.bl false)))
      (sNx))
    (sSeq (sIf (evTB (evPr (gEq not) [.late 4, .e (evCall soft [.e (evSl 3)])]))
      (sRet (evK (.bl false)))
      (sNx))
    (sSeq (sSet (asgSl 6) (evPr gTuple [.e (evComp (evSeq (.e (evPr gRevA [.e (evCall tails [.e (evSl 3)])]))) (asgSl 9) evYes (evPr L3.gSub [.e (evPr gAdd [.late 2, .e (evK (.int (1)))]), .late 9]) [8, 9])]))
    (sSeq (sSet (asgSl 7) (evPr gTuple [.e (evComp (evSeq (.e (evPr gRevA [.e (evCall arms [.e (evSl 3)])]))) (asgSl 9) evYes (evPr L3.gSub [.e (evPr gAdd [.late 2, .e (evK (.int (1)))]), .late 9]) [8, 9])]))
    (sIf (evNotT (evT (.e (evCall same [.e (evPr gLst [.e (evCall reach [.e (evSl 5)]), .e (evCall start [.e (evSl 5)])]), .e (evPr gLst [.e (evSl 6), .e (evSl 7)])]))))
      (sRet (evK (.bl false)))
      (sNx)))))))))
def tRight : EvS := sSeq (sFor (evItm gRg1 [.e (evK (.int (10)))]) (asgSl 1) (rTurn take grp soft beh same mir tails arms reach start)) (sRet (evK (.bl true)))
end
section
variable {take grp soft beh same mir tails arms reach start : Ev R}
theorem row_comp {fe : Ev R} {ns : List Int} {s0 s1 s4 s5 s6 s7 : Slot} {n : Int} {td : D} (h : fe [.v td] = some (.ok ⟨.tup (ns.map .int), false⟩ [.v td])) (hl : ns.length ≤ 1000) :
    evPr gTuple [.e (evComp (evSeq (.e (evPr gRevA [.e (evCall fe [.e (evSl 3)])]))) (asgSl 9) evYes (evPr L3.gSub [.e (evPr gAdd [.late 2, .e (evK (.int (1)))]), .late 9]) [8, 9])] [s0, s1, .v (.int n), .v td, s4, s5, s6, s7, .unk, .unk] =
      some (.ok ⟨.tup ((ns.reverse.map fun x => n + 1 - x).map .int), false⟩ [s0, s1, .v (.int n), .v td, s4, s5, s6, s7, .unk, .unk]) := by
  have rv : gRevA [.tup (ns.map .int)] = some ⟨.tup (ns.map D.int).reverse, false⟩ := rfl
  have e1 : evPr gRevA [.e (evCall fe [.e (evSl 3)])] [s0, s1, .v (.int n), .v td, s4, s5, s6, s7, .unk, .unk] = some (.ok ⟨.tup (ns.map D.int).reverse, false⟩ [s0, s1, .v (.int n), .v td, s4, s5, s6, s7, .unk, .unk]) := by simp (config := { decide := false }) only [k1_ok, k1_ex, k1_no, ret_r, asF_r, asE_r, asI_r, asL_t, as_nil, as_e, as_l, isSet_r, isSet_v, isSet_o, fdR_s, fd_nil, fd_r, fd_l, fdL_v, fdL_o, prC_s, prB_s, prA_r, pr_r, gd_t, sl_r, slK_v, slK_o, k_r, tb_r, tbA_r, tC_s, tB_s, tA_r, t_r, noA_r, not_r, anA_t, anA_f, and_r, orA_t, orA_f, or_r, ifA_t, ifA_f, if_r, anV_t, anV_f, anU_r, andV_r, orV_t, orV_f, orU_r, orV_r, ntV_s, ntU_r, notV_r, tru_b, tru_i, tru_n, tru_t, tru_l, tru_f, free_r, free_u, free_v, free_o, asgK_t, asg_r, asgM_f, asgM_l, asgM_t, acK_s, ac_r, an_r, atL_t, atK_s, at_r, sq_t, sq_l, sq_f, nxK_s, setK_ok, setK_ex, set_r, seq_r, seqK_nx, seqK_rt, seqK_ro, seqK_bk, seqK_ct, seqK_ex, ifs_r, ifK_t, ifK_f, nx_r, bk_r, ct_r, rets_r, retK_ok, retK_ex, rs_r, rsK_v, rsK_o, retN_r, expr_r, exK_ok, exK_ex, crK_s, crL_ok, crL_ex, cr_r, nod_n, nod_1, call_r, ckA_r, callK_r, agR_s, ag_nil, ag_r, ag_l, agL_v, agL_o, ol_nil, ol_r, ol_l, olK_v, olK_o, bk_nil, bkr, bkl, bkK_v, bkK_o, si_r, siA_ok, siA_ex, siE_t, siB_ok, siC_s, siD_s, isOwn_r, isOwn_o, dfA_t, df_r, dfB_nx, dfB_rt, dfB_ex, ba_v, ba_o, ba_n, nm_n, nm_v, nm_o, p_add, p_sub, p_mul, p_mod, p_fdiv, p_neg, p_int, p_intB, p_cmp, p_ixL, p_ixT, p_ixF, p_lenL, p_lenT, p_lenF, p_listT, p_listL, p_tupleL, p_tupleT, List.getElem?_cons_zero, List.getElem?_cons_succ, List.getElem?_nil, List.set_cons_zero, List.set_cons_succ, List.length_cons, List.length_nil, Option.map_some, Option.map_none, List.cons_append, List.nil_append, List.append_nil, Bool.and_true, Bool.true_and, Bool.or_true, Bool.true_or, Bool.and_false, Bool.false_and, Bool.or_false, Bool.false_or, Bool.not_true, Bool.not_false, decide_true, decide_false, h, rv]
  have e2 := comp_ps (g := asgSl 9) (f := evPr L3.gSub [.e (evPr gAdd [.late 2, .e (evK (.int (1)))]), .late 9]) (own := [8, 9]) (ps := ns.reverse.map fun x => (D.int x, D.int (n + 1 - x))) (seq_e e1 (items := (ns.reverse.map fun x => (D.int x, D.int (n + 1 - x))).map (·.1)) (by simp [D.wk, D.sq, Function.comp_def])) rfl (by rw [List.length_map, List.length_reverse]; exact Nat.le_trans hl (by decide)) fun p hp => by
    obtain ⟨q, _, rfl⟩ := List.mem_map.mp hp
    exact ⟨[s0, s1, .v (.int n), .v td, s4, s5, s6, s7, .unk, .v (.int q)], [s0, s1, .v (.int n), .v td, s4, s5, s6, s7, .unk, .v (.int q)], ⟨.int (n + 1 - q), false⟩, rfl, by simp (config := { decide := false }) only [k1_ok, k1_ex, k1_no, ret_r, asF_r, asE_r, asI_r, asL_t, as_nil, as_e, as_l, isSet_r, isSet_v, isSet_o, fdR_s, fd_nil, fd_r, fd_l, fdL_v, fdL_o, prC_s, prB_s, prA_r, pr_r, gd_t, sl_r, slK_v, slK_o, k_r, tb_r, tbA_r, tC_s, tB_s, tA_r, t_r, noA_r, not_r, anA_t, anA_f, and_r, orA_t, orA_f, or_r, ifA_t, ifA_f, if_r, anV_t, anV_f, anU_r, andV_r, orV_t, orV_f, orU_r, orV_r, ntV_s, ntU_r, notV_r, tru_b, tru_i, tru_n, tru_t, tru_l, tru_f, free_r, free_u, free_v, free_o, asgK_t, asg_r, asgM_f, asgM_l, asgM_t, acK_s, ac_r, an_r, atL_t, atK_s, at_r, sq_t, sq_l, sq_f, nxK_s, setK_ok, setK_ex, set_r, seq_r, seqK_nx, seqK_rt, seqK_ro, seqK_bk, seqK_ct, seqK_ex, ifs_r, ifK_t, ifK_f, nx_r, bk_r, ct_r, rets_r, retK_ok, retK_ex, rs_r, rsK_v, rsK_o, retN_r, expr_r, exK_ok, exK_ex, crK_s, crL_ok, crL_ex, cr_r, nod_n, nod_1, call_r, ckA_r, callK_r, agR_s, ag_nil, ag_r, ag_l, agL_v, agL_o, ol_nil, ol_r, ol_l, olK_v, olK_o, bk_nil, bkr, bkl, bkK_v, bkK_o, si_r, siA_ok, siA_ex, siE_t, siB_ok, siC_s, siD_s, isOwn_r, isOwn_o, dfA_t, df_r, dfB_nx, dfB_rt, dfB_ex, ba_v, ba_o, ba_n, nm_n, nm_v, nm_o, p_add, p_sub, p_mul, p_mod, p_fdiv, p_neg, p_int, p_intB, p_cmp, p_ixL, p_ixT, p_ixF, p_lenL, p_lenT, p_lenF, p_listT, p_listL, p_tupleL, p_tupleT, List.getElem?_cons_zero, List.getElem?_cons_succ, List.getElem?_nil, List.set_cons_zero, List.set_cons_succ, List.length_cons, List.length_nil, Option.map_some, Option.map_none, List.cons_append, List.nil_append, List.append_nil, Bool.and_true, Bool.true_and, Bool.or_true, Bool.true_or, Bool.and_false, Bool.false_and, Bool.or_false, Bool.false_or, Bool.not_true, Bool.not_false, decide_true, decide_false], rfl, rfl, rfl⟩
  have e3 : (ns.reverse.map fun x => (D.int x, D.int (n + 1 - x))).map (·.2) = (ns.reverse.map fun x => n + 1 - x).map D.int := by simp [Function.comp_def]
  rw [e3] at e2
  simp (config := { decide := false }) only [k1_ok, k1_ex, k1_no, ret_r, asF_r, asE_r, asI_r, asL_t, as_nil, as_e, as_l, isSet_r, isSet_v, isSet_o, fdR_s, fd_nil, fd_r, fd_l, fdL_v, fdL_o, prC_s, prB_s, prA_r, pr_r, gd_t, sl_r, slK_v, slK_o, k_r, tb_r, tbA_r, tC_s, tB_s, tA_r, t_r, noA_r, not_r, anA_t, anA_f, and_r, orA_t, orA_f, or_r, ifA_t, ifA_f, if_r, anV_t, anV_f, anU_r, andV_r, orV_t, orV_f, orU_r, orV_r, ntV_s, ntU_r, notV_r, tru_b, tru_i, tru_n, tru_t, tru_l, tru_f, free_r, free_u, free_v, free_o, asgK_t, asg_r, asgM_f, asgM_l, asgM_t, acK_s, ac_r, an_r, atL_t, atK_s, at_r, sq_t, sq_l, sq_f, nxK_s, setK_ok, setK_ex, set_r, seq_r, seqK_nx, seqK_rt, seqK_ro, seqK_bk, seqK_ct, seqK_ex, ifs_r, ifK_t, ifK_f, nx_r, bk_r, ct_r, rets_r, retK_ok, retK_ex, rs_r, rsK_v, rsK_o, retN_r, expr_r, exK_ok, exK_ex, crK_s, crL_ok, crL_ex, cr_r, nod_n, nod_1, call_r, ckA_r, callK_r, agR_s, ag_nil, ag_r, ag_l, agL_v, agL_o, ol_nil, ol_r, ol_l, olK_v, olK_o, bk_nil, bkr, bkl, bkK_v, bkK_o, si_r, siA_ok, siA_ex, siE_t, siB_ok, siC_s, siD_s, isOwn_r, isOwn_o, dfA_t, df_r, dfB_nx, dfB_rt, dfB_ex, ba_v, ba_o, ba_n, nm_n, nm_v, nm_o, p_add, p_sub, p_mul, p_mod, p_fdiv, p_neg, p_int, p_intB, p_cmp, p_ixL, p_ixT, p_ixF, p_lenL, p_lenT, p_lenF, p_listT, p_listL, p_tupleL, p_tupleT, List.getElem?_cons_zero, List.getElem?_cons_succ, List.getElem?_nil, List.set_cons_zero, List.set_cons_succ, List.length_cons, List.length_nil, Option.map_some, Option.map_none, List.cons_append, List.nil_append, List.append_nil, Bool.and_true, Bool.true_and, Bool.or_true, Bool.true_or, Bool.and_false, Bool.false_and, Bool.or_false, Bool.false_or, Bool.not_true, Bool.not_false, decide_true, decide_false, e2]
def fr7 (s1 s2 s3 s4 s5 s6 s7 : Slot) : Prop := freeK (some s1) = true ∧ freeK (some s2) = true ∧ freeK (some s3) = true ∧ freeK (some s4) = true ∧ freeK (some s5) = true ∧ freeK (some s6) = true ∧ freeK (some s7) = true
theorem turn_ok (T : TakeOk take) (G : GroupedOk grp 20) (S : SoftOk soft 100) (B : BehOk beh 100) (E : SameOk same 100) (M : MirOk mir)
    (TL : ∀ t : Tr, t.dep < 100 → t.joins.length ≤ 1000 → tails [.v t.d] = some (.ok ⟨.tup (t.tails.map .int), false⟩ [.v t.d])) (AR : ∀ t : Tr, t.dep < 100 → t.joins.length ≤ 1000 → arms [.v t.d] = some (.ok ⟨.tup (t.arms.map .int), false⟩ [.v t.d]))
    (RE : ArmsOk reach) (ST : TailsOk start) {x y z : Int} {c : Nat} {s1 s2 s3 s4 s5 s6 s7 : Slot} (X : Bx x y z (c + 40)) (f : fr7 s1 s2 s3 s4 s5 s6 s7) :
    ∃ x' z' s2' s3' s4' s5' s6' s7', Bx x' y z' c ∧ fr7 s1 s2' s3' s4' s5' s6' s7' ∧ rTurn take grp soft beh same mir tails arms reach start [.own 1 [.int x, .int y, .int z], s1, s2, s3, s4, s5, s6, s7, .unk, .unk] = some (.nx [.own 1 [.int x', .int y, .int z'], s1, s2', s3', s4', s5', s6', s7', .unk, .unk]) := by
  obtain ⟨f1, f2, f3, f4, f5, f6, f7⟩ := f
  obtain ⟨r, x1, z1, q1, q2, X1, e1⟩ := T x y z 16 (c + 39) X (by decide) (by decide)
  obtain ⟨t, x2, z2, g, X2, e2⟩ := G 1 (1 + r) x1 y z1 c (by omega) (by omega) (by decide) (by omega) (X1.less (by omega))
  have hN : 1 + r ≤ 60 := by omega
  obtain ⟨_, _, dp⟩ := g.ends
  have jl := g.cuts.2.2.1
  have hd : t.dep < 98 := by omega
  have gb := beh_whole g
  have hdb : (t.beh (1 + r)).dep < 98 := by have := gb.ends.2.2; omega
  have jlb := gb.cuts.2.2.1
  have e3 := S t (by omega)
  have e4 := B t (1 + r) (by omega)
  have m1 := M t.d t (1 + r) (isTr_d t) g hN
  have m2 := M t.soft t (1 + r) (isTr_soft t) g hN
  have m3 := M (t.beh (1 + r)).d (t.beh (1 + r)) (1 + r) (isTr_d _) gb hN
  rw [beh_beh] at m3
  have l3 : ∀ a b c : D, ([a, b, c] : List D).length ≤ LIM := fun _ _ _ => by show 3 ≤ LIM; decide
  have l2 : ∀ a b : D, ([a, b] : List D).length ≤ LIM := fun _ _ => by show 2 ≤ LIM; decide
  have p1 := E (.lst [(t.beh (1 + r)).d, (t.beh (1 + r)).d, t.d]) (.lst (fun d hd' => by
    simp only [List.mem_cons, List.not_mem_nil, or_false] at hd'
    rcases hd' with rfl | rfl | rfl
    · exact pln_d _ _ (by omega)
    · exact pln_d _ _ (by omega)
    · exact pln_d _ _ (by omega)) (l3 _ _ _))
  have se := soft_eq t
  have ne : gEq not [t.soft, t.soft] = some ⟨.bl false, false⟩ := by
    show gd (Nat.ble (max t.soft.dep t.soft.dep) 64) ⟨.bl (not (D.eqB t.soft t.soft)), false⟩ = _
    rw [se.1, Nat.ble_eq_true_of_le (by have := se.2; omega : max t.soft.dep t.soft.dep ≤ 64)]; rfl
  have rt := TL t (by omega) (by omega)
  have ra := AR t (by omega) (by omega)
  have lt := rows_len g
  have lb := rows_len gb
  have re := RE (t.beh (1 + r)).d (t.beh (1 + r)) (1 + r) (isTr_d _) gb hN
  have rs := ST (t.beh (1 + r)).d (t.beh (1 + r)) (1 + r) (isTr_d _) gb hN
  have p2 := E (.lst [.tup ((t.beh (1 + r)).arms.map .int), .tup ((t.beh (1 + r)).tails.map .int)]) (.lst (fun d hd' => by
    have hm : 1000 ≤ LIM := by decide
    simp only [List.mem_cons, List.not_mem_nil, or_false] at hd'
    rcases hd' with rfl | rfl
    · exact pln_row (by omega)
    · exact pln_row (by omega)) (l2 _ _))
  have c1 := fun s0 s1 s4 s5 s6 s7 => row_comp (s0 := s0) (s1 := s1) (s4 := s4) (s5 := s5) (s6 := s6) (s7 := s7) (n := 1 + r) rt (by omega)
  have c2 := fun s0 s1 s4 s5 s6 s7 => row_comp (s0 := s0) (s1 := s1) (s4 := s4) (s5 := s5) (s6 := s6) (s7 := s7) (n := 1 + r) ra (by omega)
  rw [← beh_arms g] at c1
  rw [← beh_tails g] at c2
  have pr : ∀ s6 s7, sPar 4 5 (evCall soft [.e (evSl 3)]) (evCall beh [.e (evSl 3), .e (evSl 2)]) [.own 1 (bx x2 y z2), s1, .v (.int (1 + r)), .v t.d, s4, s5, s6, s7, .unk, .unk] = some (.nx [.own 1 (bx x2 y z2), s1, .v (.int (1 + r)), .v t.d, .v t.soft, .v (t.beh (1 + r)).d, s6, s7, .unk, .unk]) := fun s6 s7 =>
    par_r (rs := [.inr t.soft, .inr (t.beh (1 + r)).d]) (c := t.soft) (d := (t.beh (1 + r)).d) (ρ1 := [.own 1 (bx x2 y z2), s1, .v (.int (1 + r)), .v t.d, s4, s5, s6, s7, .unk, .unk]) (ρ2 := [.own 1 (bx x2 y z2), s1, .v (.int (1 + r)), .v t.d, .v t.soft, s5, s6, s7, .unk, .unk]) (by simp (config := { decide := false }) only [k1_ok, k1_ex, k1_no, ret_r, asF_r, asE_r, asI_r, asL_t, as_nil, as_e, as_l, isSet_r, isSet_v, isSet_o, fdR_s, fd_nil, fd_r, fd_l, fdL_v, fdL_o, prC_s, prB_s, prA_r, pr_r, gd_t, sl_r, slK_v, slK_o, k_r, tb_r, tbA_r, tC_s, tB_s, tA_r, t_r, noA_r, not_r, anA_t, anA_f, and_r, orA_t, orA_f, or_r, ifA_t, ifA_f, if_r, anV_t, anV_f, anU_r, andV_r, orV_t, orV_f, orU_r, orV_r, ntV_s, ntU_r, notV_r, tru_b, tru_i, tru_n, tru_t, tru_l, tru_f, free_r, free_u, free_v, free_o, asgK_t, asg_r, asgM_f, asgM_l, asgM_t, acK_s, ac_r, an_r, atL_t, atK_s, at_r, sq_t, sq_l, sq_f, nxK_s, setK_ok, setK_ex, set_r, seq_r, seqK_nx, seqK_rt, seqK_ro, seqK_bk, seqK_ct, seqK_ex, ifs_r, ifK_t, ifK_f, nx_r, bk_r, ct_r, rets_r, retK_ok, retK_ex, rs_r, rsK_v, rsK_o, retN_r, expr_r, exK_ok, exK_ex, crK_s, crL_ok, crL_ex, cr_r, nod_n, nod_1, call_r, ckA_r, callK_r, agR_s, ag_nil, ag_r, ag_l, agL_v, agL_o, ol_nil, ol_r, ol_l, olK_v, olK_o, bk_nil, bkr, bkl, bkK_v, bkK_o, si_r, siA_ok, siA_ex, siE_t, siB_ok, siC_s, siD_s, isOwn_r, isOwn_o, dfA_t, df_r, dfB_nx, dfB_rt, dfB_ex, ba_v, ba_o, ba_n, nm_n, nm_v, nm_o, p_add, p_sub, p_mul, p_mod, p_fdiv, p_neg, p_int, p_intB, p_cmp, p_ixL, p_ixT, p_ixF, p_lenL, p_lenT, p_lenF, p_listT, p_listL, p_tupleL, p_tupleT, List.getElem?_cons_zero, List.getElem?_cons_succ, List.getElem?_nil, List.set_cons_zero, List.set_cons_succ, List.length_cons, List.length_nil, Option.map_some, Option.map_none, List.cons_append, List.nil_append, List.append_nil, Bool.and_true, Bool.true_and, Bool.or_true, Bool.true_or, Bool.and_false, Bool.false_and, Bool.or_false, Bool.false_or, Bool.not_true, Bool.not_false, decide_true, decide_false, e3, e4]) (by simp (config := { decide := false }) only [k1_ok, k1_ex, k1_no, ret_r, asF_r, asE_r, asI_r, asL_t, as_nil, as_e, as_l, isSet_r, isSet_v, isSet_o, fdR_s, fd_nil, fd_r, fd_l, fdL_v, fdL_o, prC_s, prB_s, prA_r, pr_r, gd_t, sl_r, slK_v, slK_o, k_r, tb_r, tbA_r, tC_s, tB_s, tA_r, t_r, noA_r, not_r, anA_t, anA_f, and_r, orA_t, orA_f, or_r, ifA_t, ifA_f, if_r, anV_t, anV_f, anU_r, andV_r, orV_t, orV_f, orU_r, orV_r, ntV_s, ntU_r, notV_r, tru_b, tru_i, tru_n, tru_t, tru_l, tru_f, free_r, free_u, free_v, free_o, asgK_t, asg_r, asgM_f, asgM_l, asgM_t, acK_s, ac_r, an_r, atL_t, atK_s, at_r, sq_t, sq_l, sq_f, nxK_s, setK_ok, setK_ex, set_r, seq_r, seqK_nx, seqK_rt, seqK_ro, seqK_bk, seqK_ct, seqK_ex, ifs_r, ifK_t, ifK_f, nx_r, bk_r, ct_r, rets_r, retK_ok, retK_ex, rs_r, rsK_v, rsK_o, retN_r, expr_r, exK_ok, exK_ex, crK_s, crL_ok, crL_ex, cr_r, nod_n, nod_1, call_r, ckA_r, callK_r, agR_s, ag_nil, ag_r, ag_l, agL_v, agL_o, ol_nil, ol_r, ol_l, olK_v, olK_o, bk_nil, bkr, bkl, bkK_v, bkK_o, si_r, siA_ok, siA_ex, siE_t, siB_ok, siC_s, siD_s, isOwn_r, isOwn_o, dfA_t, df_r, dfB_nx, dfB_rt, dfB_ex, ba_v, ba_o, ba_n, nm_n, nm_v, nm_o, p_add, p_sub, p_mul, p_mod, p_fdiv, p_neg, p_int, p_intB, p_cmp, p_ixL, p_ixT, p_ixF, p_lenL, p_lenT, p_lenF, p_listT, p_listL, p_tupleL, p_tupleT, List.getElem?_cons_zero, List.getElem?_cons_succ, List.getElem?_nil, List.set_cons_zero, List.set_cons_succ, List.length_cons, List.length_nil, Option.map_some, Option.map_none, List.cons_append, List.nil_append, List.append_nil, Bool.and_true, Bool.true_and, Bool.or_true, Bool.true_or, Bool.and_false, Bool.false_and, Bool.or_false, Bool.false_or, Bool.not_true, Bool.not_false, decide_true, decide_false]) (by simp (config := { decide := false }) only [k1_ok, k1_ex, k1_no, ret_r, asF_r, asE_r, asI_r, asL_t, as_nil, as_e, as_l, isSet_r, isSet_v, isSet_o, fdR_s, fd_nil, fd_r, fd_l, fdL_v, fdL_o, prC_s, prB_s, prA_r, pr_r, gd_t, sl_r, slK_v, slK_o, k_r, tb_r, tbA_r, tC_s, tB_s, tA_r, t_r, noA_r, not_r, anA_t, anA_f, and_r, orA_t, orA_f, or_r, ifA_t, ifA_f, if_r, anV_t, anV_f, anU_r, andV_r, orV_t, orV_f, orU_r, orV_r, ntV_s, ntU_r, notV_r, tru_b, tru_i, tru_n, tru_t, tru_l, tru_f, free_r, free_u, free_v, free_o, asgK_t, asg_r, asgM_f, asgM_l, asgM_t, acK_s, ac_r, an_r, atL_t, atK_s, at_r, sq_t, sq_l, sq_f, nxK_s, setK_ok, setK_ex, set_r, seq_r, seqK_nx, seqK_rt, seqK_ro, seqK_bk, seqK_ct, seqK_ex, ifs_r, ifK_t, ifK_f, nx_r, bk_r, ct_r, rets_r, retK_ok, retK_ex, rs_r, rsK_v, rsK_o, retN_r, expr_r, exK_ok, exK_ex, crK_s, crL_ok, crL_ex, cr_r, nod_n, nod_1, call_r, ckA_r, callK_r, agR_s, ag_nil, ag_r, ag_l, agL_v, agL_o, ol_nil, ol_r, ol_l, olK_v, olK_o, bk_nil, bkr, bkl, bkK_v, bkK_o, si_r, siA_ok, siA_ex, siE_t, siB_ok, siC_s, siD_s, isOwn_r, isOwn_o, dfA_t, df_r, dfB_nx, dfB_rt, dfB_ex, ba_v, ba_o, ba_n, nm_n, nm_v, nm_o, p_add, p_sub, p_mul, p_mod, p_fdiv, p_neg, p_int, p_intB, p_cmp, p_ixL, p_ixT, p_ixF, p_lenL, p_lenT, p_lenF, p_listT, p_listL, p_tupleL, p_tupleT, List.getElem?_cons_zero, List.getElem?_cons_succ, List.getElem?_nil, List.set_cons_zero, List.set_cons_succ, List.length_cons, List.length_nil, Option.map_some, Option.map_none, List.cons_append, List.nil_append, List.append_nil, Bool.and_true, Bool.true_and, Bool.or_true, Bool.true_or, Bool.and_false, Bool.false_and, Bool.or_false, Bool.false_or, Bool.not_true, Bool.not_false, decide_true, decide_false, f4]) (by simp (config := { decide := false }) only [k1_ok, k1_ex, k1_no, ret_r, asF_r, asE_r, asI_r, asL_t, as_nil, as_e, as_l, isSet_r, isSet_v, isSet_o, fdR_s, fd_nil, fd_r, fd_l, fdL_v, fdL_o, prC_s, prB_s, prA_r, pr_r, gd_t, sl_r, slK_v, slK_o, k_r, tb_r, tbA_r, tC_s, tB_s, tA_r, t_r, noA_r, not_r, anA_t, anA_f, and_r, orA_t, orA_f, or_r, ifA_t, ifA_f, if_r, anV_t, anV_f, anU_r, andV_r, orV_t, orV_f, orU_r, orV_r, ntV_s, ntU_r, notV_r, tru_b, tru_i, tru_n, tru_t, tru_l, tru_f, free_r, free_u, free_v, free_o, asgK_t, asg_r, asgM_f, asgM_l, asgM_t, acK_s, ac_r, an_r, atL_t, atK_s, at_r, sq_t, sq_l, sq_f, nxK_s, setK_ok, setK_ex, set_r, seq_r, seqK_nx, seqK_rt, seqK_ro, seqK_bk, seqK_ct, seqK_ex, ifs_r, ifK_t, ifK_f, nx_r, bk_r, ct_r, rets_r, retK_ok, retK_ex, rs_r, rsK_v, rsK_o, retN_r, expr_r, exK_ok, exK_ex, crK_s, crL_ok, crL_ex, cr_r, nod_n, nod_1, call_r, ckA_r, callK_r, agR_s, ag_nil, ag_r, ag_l, agL_v, agL_o, ol_nil, ol_r, ol_l, olK_v, olK_o, bk_nil, bkr, bkl, bkK_v, bkK_o, si_r, siA_ok, siA_ex, siE_t, siB_ok, siC_s, siD_s, isOwn_r, isOwn_o, dfA_t, df_r, dfB_nx, dfB_rt, dfB_ex, ba_v, ba_o, ba_n, nm_n, nm_v, nm_o, p_add, p_sub, p_mul, p_mod, p_fdiv, p_neg, p_int, p_intB, p_cmp, p_ixL, p_ixT, p_ixF, p_lenL, p_lenT, p_lenF, p_listT, p_listL, p_tupleL, p_tupleT, List.getElem?_cons_zero, List.getElem?_cons_succ, List.getElem?_nil, List.set_cons_zero, List.set_cons_succ, List.length_cons, List.length_nil, Option.map_some, Option.map_none, List.cons_append, List.nil_append, List.append_nil, Bool.and_true, Bool.true_and, Bool.or_true, Bool.true_or, Bool.and_false, Bool.false_and, Bool.or_false, Bool.false_or, Bool.not_true, Bool.not_false, decide_true, decide_false, f5])
  refine ⟨x2, z2, .v (.int (1 + r)), .v t.d, .v t.soft, .v (t.beh (1 + r)).d, .v (.tup ((t.beh (1 + r)).arms.map .int)), .v (.tup ((t.beh (1 + r)).tails.map .int)), X2, ⟨f1, rfl, rfl, rfl, rfl, rfl, rfl⟩, ?_⟩
  unfold rTurn
  generalize evPr gTuple [.e (evComp (evSeq (.e (evPr gRevA [.e (evCall tails [.e (evSl 3)])]))) (asgSl 9) evYes (evPr L3.gSub [.e (evPr gAdd [.late 2, .e (evK (.int (1)))]), .late 9]) [8, 9])] = C1 at c1 ⊢
  generalize evPr gTuple [.e (evComp (evSeq (.e (evPr gRevA [.e (evCall arms [.e (evSl 3)])]))) (asgSl 9) evYes (evPr L3.gSub [.e (evPr gAdd [.late 2, .e (evK (.int (1)))]), .late 9]) [8, 9])] = C2 at c2 ⊢
  simp (config := { decide := false }) only [k1_ok, k1_ex, k1_no, ret_r, asF_r, asE_r, asI_r, asL_t, as_nil, as_e, as_l, isSet_r, isSet_v, isSet_o, fdR_s, fd_nil, fd_r, fd_l, fdL_v, fdL_o, prC_s, prB_s, prA_r, pr_r, gd_t, sl_r, slK_v, slK_o, k_r, tb_r, tbA_r, tC_s, tB_s, tA_r, t_r, noA_r, not_r, anA_t, anA_f, and_r, orA_t, orA_f, or_r, ifA_t, ifA_f, if_r, anV_t, anV_f, anU_r, andV_r, orV_t, orV_f, orU_r, orV_r, ntV_s, ntU_r, notV_r, tru_b, tru_i, tru_n, tru_t, tru_l, tru_f, free_r, free_u, free_v, free_o, asgK_t, asg_r, asgM_f, asgM_l, asgM_t, acK_s, ac_r, an_r, atL_t, atK_s, at_r, sq_t, sq_l, sq_f, nxK_s, setK_ok, setK_ex, set_r, seq_r, seqK_nx, seqK_rt, seqK_ro, seqK_bk, seqK_ct, seqK_ex, ifs_r, ifK_t, ifK_f, nx_r, bk_r, ct_r, rets_r, retK_ok, retK_ex, rs_r, rsK_v, rsK_o, retN_r, expr_r, exK_ok, exK_ex, crK_s, crL_ok, crL_ex, cr_r, nod_n, nod_1, call_r, ckA_r, callK_r, agR_s, ag_nil, ag_r, ag_l, agL_v, agL_o, ol_nil, ol_r, ol_l, olK_v, olK_o, bk_nil, bkr, bkl, bkK_v, bkK_o, si_r, siA_ok, siA_ex, siE_t, siB_ok, siC_s, siD_s, isOwn_r, isOwn_o, dfA_t, df_r, dfB_nx, dfB_rt, dfB_ex, ba_v, ba_o, ba_n, nm_n, nm_v, nm_o, p_add, p_sub, p_mul, p_mod, p_fdiv, p_neg, p_int, p_intB, p_cmp, p_ixL, p_ixT, p_ixF, p_lenL, p_lenT, p_lenF, p_listT, p_listL, p_tupleL, p_tupleT, List.getElem?_cons_zero, List.getElem?_cons_succ, List.getElem?_nil, List.set_cons_zero, List.set_cons_succ, List.length_cons, List.length_nil, Option.map_some, Option.map_none, List.cons_append, List.nil_append, List.append_nil, Bool.and_true, Bool.true_and, Bool.or_true, Bool.true_or, Bool.and_false, Bool.false_and, Bool.or_false, Bool.false_or, Bool.not_true, Bool.not_false, decide_true, decide_false, e1, e2, pr, blt12, if_true, ite_true, f2, f3, f6, f7, m1, m2, m3, p_lst (l3 _ _ _), p_lst (l2 _ _), p1, e3, ne, c1, c2, re, rs, p2]
end
end L3

/-! M14: all turns; a law over three sources of draws. -/
namespace L3
open PySem L2
/-- a part of the law that goes right whatever the source gives -/
def RightOk (fe : Ev R) (c : Nat) : Prop := ∀ x y z : Int, Bx x y z c → ∃ x' z', fe [.own 1 (bx x y z)] = some (.ok ⟨.bl true, false⟩ [.own 1 (bx x' y z')])
section
variable {take grp soft beh same mir tails arms reach start : Ev R}
theorem turns_ok {body : EvS} (H : ∀ {x y z : Int} {c : Nat} {s1 s2 s3 s4 s5 s6 s7 : Slot}, Bx x y z (c + 40) → fr7 s1 s2 s3 s4 s5 s6 s7 →
    ∃ x' z' s2' s3' s4' s5' s6' s7', Bx x' y z' c ∧ fr7 s1 s2' s3' s4' s5' s6' s7' ∧ body [.own 1 [.int x, .int y, .int z], s1, s2, s3, s4, s5, s6, s7, .unk, .unk] = some (.nx [.own 1 [.int x', .int y, .int z'], s1, s2', s3', s4', s5', s6', s7', .unk, .unk])) :
    ∀ (is : List Int) (x y z : Int) (s1 s2 s3 s4 s5 s6 s7 : Slot), Bx x y z (40 * is.length) → fr7 s1 s2 s3 s4 s5 s6 s7 →
      ∃ x' z' s1' s2' s3' s4' s5' s6' s7', evFor (asgSl 1) body (is.map .int) [.own 1 [.int x, .int y, .int z], s1, s2, s3, s4, s5, s6, s7, .unk, .unk] = some (.nx [.own 1 [.int x', .int y, .int z'], s1', s2', s3', s4', s5', s6', s7', .unk, .unk])
  | [], x, y, z, s1, s2, s3, s4, s5, s6, s7, _, _ => ⟨x, z, s1, s2, s3, s4, s5, s6, s7, rfl⟩
  | i :: is, x, y, z, s1, s2, s3, s4, s5, s6, s7, X, f => by
    obtain ⟨f1, f'⟩ := f
    obtain ⟨x1, z1, t2, t3, t4, t5, t6, t7, X1, g, e⟩ := H (c := 40 * is.length) (s1 := .v (.int i)) (X.less (by simp only [List.length_cons]; omega)) ⟨rfl, f'⟩
    obtain ⟨x', z', s1', s2', s3', s4', s5', s6', s7', e2⟩ := turns_ok H is x1 y z1 (.v (.int i)) t2 t3 t4 t5 t6 t7 X1 g
    refine ⟨x', z', s1', s2', s3', s4', s5', s6', s7', (for_nx ?_ e).trans e2⟩
    simp (config := { decide := false }) only [k1_ok, k1_ex, k1_no, ret_r, asF_r, asE_r, asI_r, asL_t, as_nil, as_e, as_l, isSet_r, isSet_v, isSet_o, fdR_s, fd_nil, fd_r, fd_l, fdL_v, fdL_o, prC_s, prB_s, prA_r, pr_r, gd_t, sl_r, slK_v, slK_o, k_r, tb_r, tbA_r, tC_s, tB_s, tA_r, t_r, noA_r, not_r, anA_t, anA_f, and_r, orA_t, orA_f, or_r, ifA_t, ifA_f, if_r, anV_t, anV_f, anU_r, andV_r, orV_t, orV_f, orU_r, orV_r, ntV_s, ntU_r, notV_r, tru_b, tru_i, tru_n, tru_t, tru_l, tru_f, free_r, free_u, free_v, free_o, asgK_t, asg_r, asgM_f, asgM_l, asgM_t, acK_s, ac_r, an_r, atL_t, atK_s, at_r, sq_t, sq_l, sq_f, nxK_s, setK_ok, setK_ex, set_r, seq_r, seqK_nx, seqK_rt, seqK_ro, seqK_bk, seqK_ct, seqK_ex, ifs_r, ifK_t, ifK_f, nx_r, bk_r, ct_r, rets_r, retK_ok, retK_ex, rs_r, rsK_v, rsK_o, retN_r, expr_r, exK_ok, exK_ex, crK_s, crL_ok, crL_ex, cr_r, nod_n, nod_1, call_r, ckA_r, callK_r, agR_s, ag_nil, ag_r, ag_l, agL_v, agL_o, ol_nil, ol_r, ol_l, olK_v, olK_o, bk_nil, bkr, bkl, bkK_v, bkK_o, si_r, siA_ok, siA_ex, siE_t, siB_ok, siC_s, siD_s, isOwn_r, isOwn_o, dfA_t, df_r, dfB_nx, dfB_rt, dfB_ex, ba_v, ba_o, ba_n, nm_n, nm_v, nm_o, p_add, p_sub, p_mul, p_mod, p_fdiv, p_neg, p_int, p_intB, p_cmp, p_ixL, p_ixT, p_ixF, p_lenL, p_lenT, p_lenF, p_listT, p_listL, p_tupleL, p_tupleT, List.getElem?_cons_zero, List.getElem?_cons_succ, List.getElem?_nil, List.set_cons_zero, List.set_cons_succ, List.length_cons, List.length_nil, Option.map_some, Option.map_none, List.cons_append, List.nil_append, List.append_nil, Bool.and_true, Bool.true_and, Bool.or_true, Bool.true_or, Bool.and_false, Bool.false_and, Bool.or_false, Bool.false_or, Bool.not_true, Bool.not_false, decide_true, decide_false, f1]
theorem rg10 : gRg1 [.int 10] = some (([0, 1, 2, 3, 4, 5, 6, 7, 8, 9] : List Int).map .int) := by rfl
theorem right_ok {body : EvS} (H : ∀ {x y z : Int} {c : Nat} {s1 s2 s3 s4 s5 s6 s7 : Slot}, Bx x y z (c + 40) → fr7 s1 s2 s3 s4 s5 s6 s7 →
    ∃ x' z' s2' s3' s4' s5' s6' s7', Bx x' y z' c ∧ fr7 s1 s2' s3' s4' s5' s6' s7' ∧ body [.own 1 [.int x, .int y, .int z], s1, s2, s3, s4, s5, s6, s7, .unk, .unk] = some (.nx [.own 1 [.int x', .int y, .int z'], s1, s2', s3', s4', s5', s6', s7', .unk, .unk])) :
    RightOk (defEv 1 9 (sSeq (sFor (evItm gRg1 [.e (evK (.int (10)))]) (asgSl 1) body) (sRet (evK (.bl true))))) 400 := by
  intro x y z X
  obtain ⟨x', z', s1, s2, s3, s4, s5, s6, s7, e⟩ := turns_ok H [0, 1, 2, 3, 4, 5, 6, 7, 8, 9] x y z .unk .unk .unk .unk .unk .unk .unk X ⟨rfl, rfl, rfl, rfl, rfl, rfl, rfl⟩
  have hi : evItm gRg1 [.e (evK (.int 10))] [.own 1 [.int x, .int y, .int z], .unk, .unk, .unk, .unk, .unk, .unk, .unk, .unk, .unk] = some (.ok (([0, 1, 2, 3, 4, 5, 6, 7, 8, 9] : List Int).map .int, none) [.own 1 [.int x, .int y, .int z], .unk, .unk, .unk, .unk, .unk, .unk, .unk, .unk, .unk]) :=
    itm_r (rs := [.inr (.int 10)]) (ds := [.int 10]) (ρ' := [.own 1 [.int x, .int y, .int z], .unk, .unk, .unk, .unk, .unk, .unk, .unk, .unk, .unk]) (by simp (config := { decide := false }) only [k1_ok, k1_ex, k1_no, ret_r, asF_r, asE_r, asI_r, asL_t, as_nil, as_e, as_l, isSet_r, isSet_v, isSet_o, fdR_s, fd_nil, fd_r, fd_l, fdL_v, fdL_o, prC_s, prB_s, prA_r, pr_r, gd_t, sl_r, slK_v, slK_o, k_r, tb_r, tbA_r, tC_s, tB_s, tA_r, t_r, noA_r, not_r, anA_t, anA_f, and_r, orA_t, orA_f, or_r, ifA_t, ifA_f, if_r, anV_t, anV_f, anU_r, andV_r, orV_t, orV_f, orU_r, orV_r, ntV_s, ntU_r, notV_r, tru_b, tru_i, tru_n, tru_t, tru_l, tru_f, free_r, free_u, free_v, free_o, asgK_t, asg_r, asgM_f, asgM_l, asgM_t, acK_s, ac_r, an_r, atL_t, atK_s, at_r, sq_t, sq_l, sq_f, nxK_s, setK_ok, setK_ex, set_r, seq_r, seqK_nx, seqK_rt, seqK_ro, seqK_bk, seqK_ct, seqK_ex, ifs_r, ifK_t, ifK_f, nx_r, bk_r, ct_r, rets_r, retK_ok, retK_ex, rs_r, rsK_v, rsK_o, retN_r, expr_r, exK_ok, exK_ex, crK_s, crL_ok, crL_ex, cr_r, nod_n, nod_1, call_r, ckA_r, callK_r, agR_s, ag_nil, ag_r, ag_l, agL_v, agL_o, ol_nil, ol_r, ol_l, olK_v, olK_o, bk_nil, bkr, bkl, bkK_v, bkK_o, si_r, siA_ok, siA_ex, siE_t, siB_ok, siC_s, siD_s, isOwn_r, isOwn_o, dfA_t, df_r, dfB_nx, dfB_rt, dfB_ex, ba_v, ba_o, ba_n, nm_n, nm_v, nm_o, p_add, p_sub, p_mul, p_mod, p_fdiv, p_neg, p_int, p_intB, p_cmp, p_ixL, p_ixT, p_ixF, p_lenL, p_lenT, p_lenF, p_listT, p_listL, p_tupleL, p_tupleT, List.getElem?_cons_zero, List.getElem?_cons_succ, List.getElem?_nil, List.set_cons_zero, List.set_cons_succ, List.length_cons, List.length_nil, Option.map_some, Option.map_none, List.cons_append, List.nil_append, List.append_nil, Bool.and_true, Bool.true_and, Bool.or_true, Bool.true_or, Bool.and_false, Bool.false_and, Bool.or_false, Bool.false_or, Bool.not_true, Bool.not_false, decide_true, decide_false]) (by simp (config := { decide := false }) only [k1_ok, k1_ex, k1_no, ret_r, asF_r, asE_r, asI_r, asL_t, as_nil, as_e, as_l, isSet_r, isSet_v, isSet_o, fdR_s, fd_nil, fd_r, fd_l, fdL_v, fdL_o, prC_s, prB_s, prA_r, pr_r, gd_t, sl_r, slK_v, slK_o, k_r, tb_r, tbA_r, tC_s, tB_s, tA_r, t_r, noA_r, not_r, anA_t, anA_f, and_r, orA_t, orA_f, or_r, ifA_t, ifA_f, if_r, anV_t, anV_f, anU_r, andV_r, orV_t, orV_f, orU_r, orV_r, ntV_s, ntU_r, notV_r, tru_b, tru_i, tru_n, tru_t, tru_l, tru_f, free_r, free_u, free_v, free_o, asgK_t, asg_r, asgM_f, asgM_l, asgM_t, acK_s, ac_r, an_r, atL_t, atK_s, at_r, sq_t, sq_l, sq_f, nxK_s, setK_ok, setK_ex, set_r, seq_r, seqK_nx, seqK_rt, seqK_ro, seqK_bk, seqK_ct, seqK_ex, ifs_r, ifK_t, ifK_f, nx_r, bk_r, ct_r, rets_r, retK_ok, retK_ex, rs_r, rsK_v, rsK_o, retN_r, expr_r, exK_ok, exK_ex, crK_s, crL_ok, crL_ex, cr_r, nod_n, nod_1, call_r, ckA_r, callK_r, agR_s, ag_nil, ag_r, ag_l, agL_v, agL_o, ol_nil, ol_r, ol_l, olK_v, olK_o, bk_nil, bkr, bkl, bkK_v, bkK_o, si_r, siA_ok, siA_ex, siE_t, siB_ok, siC_s, siD_s, isOwn_r, isOwn_o, dfA_t, df_r, dfB_nx, dfB_rt, dfB_ex, ba_v, ba_o, ba_n, nm_n, nm_v, nm_o, p_add, p_sub, p_mul, p_mod, p_fdiv, p_neg, p_int, p_intB, p_cmp, p_ixL, p_ixT, p_ixF, p_lenL, p_lenT, p_lenF, p_listT, p_listL, p_tupleL, p_tupleT, List.getElem?_cons_zero, List.getElem?_cons_succ, List.getElem?_nil, List.set_cons_zero, List.set_cons_succ, List.length_cons, List.length_nil, Option.map_some, Option.map_none, List.cons_append, List.nil_append, List.append_nil, Bool.and_true, Bool.true_and, Bool.or_true, Bool.true_or, Bool.and_false, Bool.false_and, Bool.or_false, Bool.false_or, Bool.not_true, Bool.not_false, decide_true, decide_false]) rg10
  have e2 := (for_r (g := asgSl 1) (body := body) hi).trans e
  refine ⟨x', z', ?_⟩
  generalize sFor (evItm gRg1 [.e (evK (.int (10)))]) (asgSl 1) body = Fo at e2 ⊢
  simp (config := { decide := false }) only [k1_ok, k1_ex, k1_no, ret_r, asF_r, asE_r, asI_r, asL_t, as_nil, as_e, as_l, isSet_r, isSet_v, isSet_o, fdR_s, fd_nil, fd_r, fd_l, fdL_v, fdL_o, prC_s, prB_s, prA_r, pr_r, gd_t, sl_r, slK_v, slK_o, k_r, tb_r, tbA_r, tC_s, tB_s, tA_r, t_r, noA_r, not_r, anA_t, anA_f, and_r, orA_t, orA_f, or_r, ifA_t, ifA_f, if_r, anV_t, anV_f, anU_r, andV_r, orV_t, orV_f, orU_r, orV_r, ntV_s, ntU_r, notV_r, tru_b, tru_i, tru_n, tru_t, tru_l, tru_f, free_r, free_u, free_v, free_o, asgK_t, asg_r, asgM_f, asgM_l, asgM_t, acK_s, ac_r, an_r, atL_t, atK_s, at_r, sq_t, sq_l, sq_f, nxK_s, setK_ok, setK_ex, set_r, seq_r, seqK_nx, seqK_rt, seqK_ro, seqK_bk, seqK_ct, seqK_ex, ifs_r, ifK_t, ifK_f, nx_r, bk_r, ct_r, rets_r, retK_ok, retK_ex, rs_r, rsK_v, rsK_o, retN_r, expr_r, exK_ok, exK_ex, crK_s, crL_ok, crL_ex, cr_r, nod_n, nod_1, call_r, ckA_r, callK_r, agR_s, ag_nil, ag_r, ag_l, agL_v, agL_o, ol_nil, ol_r, ol_l, olK_v, olK_o, bk_nil, bkr, bkl, bkK_v, bkK_o, si_r, siA_ok, siA_ex, siE_t, siB_ok, siC_s, siD_s, isOwn_r, isOwn_o, dfA_t, df_r, dfB_nx, dfB_rt, dfB_ex, ba_v, ba_o, ba_n, nm_n, nm_v, nm_o, p_add, p_sub, p_mul, p_mod, p_fdiv, p_neg, p_int, p_intB, p_cmp, p_ixL, p_ixT, p_ixF, p_lenL, p_lenT, p_lenF, p_listT, p_listL, p_tupleL, p_tupleT, List.getElem?_cons_zero, List.getElem?_cons_succ, List.getElem?_nil, List.set_cons_zero, List.set_cons_succ, List.length_cons, List.length_nil, Option.map_some, Option.map_none, List.cons_append, List.nil_append, List.append_nil, Bool.and_true, Bool.true_and, Bool.or_true, Bool.true_or, Bool.and_false, Bool.false_and, Bool.or_false, Bool.false_or, Bool.not_true, Bool.not_false, decide_true, decide_false, List.replicate, Nat.beq, Nat.reduceAdd, blt01, e2]
end
theorem call1_r {fe f : Ev R} {ρ ρ1 sl : Sls} {ds : List D} {r : R} (h : f ρ = some (.ok ⟨.lst ds, true⟩ ρ1)) (h2 : fe [.own 1 ds] = some (.ok r sl)) : evCall1 fe f ρ = some (.ok ⟨r.d, false⟩ ρ1) := by
  show (f.bind _) ρ = _
  unfold Ev.bind
  simp only [h, h2]
def tLaw (hand cells right box : Ev R) (m : Int) : EvS :=
  sSeq (sIf (evNotT (evT (.e (evCall hand []))))
    (sRet (evK (.bl false)))
    (sNx))
  (sSeq (sSet (asgSl 1) (evCall cells [.e (evSl 0), .e (evK (.int m))]))
  (sRet (evPr gAll [.e (evComp (evItm gRg1 [.e (evPr gLen [.late 1])]) (asgSl 3) evYes (evCall1 right (evCall box [.e (evSl 1), .e (evSl 3)])) [2, 3])])))
theorem sm62_n {n : Nat} (h : (n : Int) < 4611686018427387904) : sm62 (n : Nat) = true := by
  unfold sm62
  rw [Bool.and_eq_true, decide_eq_true_eq, decide_eq_true_eq]
  exact ⟨by omega, h⟩
theorem gRg1_of {i : Int} (s : sm62 i = true) : gRg1 [.int i] = some (rgD 0 1 i.toNat) := by
  simp only [gRg1, s]
theorem gRg1_n {n : Nat} (h : (n : Int) < 4611686018427387904) : gRg1 [.int (n : Nat)] = some (rgD 0 1 n) := by
  rw [gRg1_of (sm62_n h), Int.toNat_natCast]
theorem ret_all {Co : Ev R} {ρ ρ' : Sls} {ds : List D} (h : Co ρ = some (.ok ⟨.lst (ds.map fun _ => .bl true), true⟩ ρ')) : sRet (evPr gAll [.e Co]) ρ = some (.rt ⟨.bl true, false⟩ ρ') := by
  have a := all_true ds
  generalize (ds.map fun _ => D.bl true) = L at a h
  simp (config := { decide := false }) only [k1_ok, k1_ex, k1_no, ret_r, asF_r, asE_r, asI_r, asL_t, as_nil, as_e, as_l, isSet_r, isSet_v, isSet_o, fdR_s, fd_nil, fd_r, fd_l, fdL_v, fdL_o, prC_s, prB_s, prA_r, pr_r, gd_t, sl_r, slK_v, slK_o, k_r, tb_r, tbA_r, tC_s, tB_s, tA_r, t_r, noA_r, not_r, anA_t, anA_f, and_r, orA_t, orA_f, or_r, ifA_t, ifA_f, if_r, anV_t, anV_f, anU_r, andV_r, orV_t, orV_f, orU_r, orV_r, ntV_s, ntU_r, notV_r, tru_b, tru_i, tru_n, tru_t, tru_l, tru_f, free_r, free_u, free_v, free_o, asgK_t, asg_r, asgM_f, asgM_l, asgM_t, acK_s, ac_r, an_r, atL_t, atK_s, at_r, sq_t, sq_l, sq_f, nxK_s, setK_ok, setK_ex, set_r, seq_r, seqK_nx, seqK_rt, seqK_ro, seqK_bk, seqK_ct, seqK_ex, ifs_r, ifK_t, ifK_f, nx_r, bk_r, ct_r, rets_r, retK_ok, retK_ex, rs_r, rsK_v, rsK_o, retN_r, expr_r, exK_ok, exK_ex, crK_s, crL_ok, crL_ex, cr_r, nod_n, nod_1, call_r, ckA_r, callK_r, agR_s, ag_nil, ag_r, ag_l, agL_v, agL_o, ol_nil, ol_r, ol_l, olK_v, olK_o, bk_nil, bkr, bkl, bkK_v, bkK_o, si_r, siA_ok, siA_ex, siE_t, siB_ok, siC_s, siD_s, isOwn_r, isOwn_o, dfA_t, df_r, dfB_nx, dfB_rt, dfB_ex, ba_v, ba_o, ba_n, nm_n, nm_v, nm_o, p_add, p_sub, p_mul, p_mod, p_fdiv, p_neg, p_int, p_intB, p_cmp, p_ixL, p_ixT, p_ixF, p_lenL, p_lenT, p_lenF, p_listT, p_listL, p_tupleL, p_tupleT, List.getElem?_cons_zero, List.getElem?_cons_succ, List.getElem?_nil, List.set_cons_zero, List.set_cons_succ, List.length_cons, List.length_nil, Option.map_some, Option.map_none, List.cons_append, List.nil_append, List.append_nil, Bool.and_true, Bool.true_and, Bool.or_true, Bool.true_or, Bool.and_false, Bool.false_and, Bool.or_false, Bool.false_or, Bool.not_true, Bool.not_false, decide_true, decide_false, h]
  rw [a]; rfl
theorem law_ok {hand cells right box : Ev R} {m c : Nat} (hH : hand [] = some (.ok ⟨.bl true, false⟩ [])) (C : CellsOk cells m) (hm : m ≤ 63) (B : BoxOk box) (hc : c ≤ 2 ^ 40) (RI : RightOk right c) (ns : List Int) (hn : ns.length ≤ 63) :
    ∃ b ρ', defEv 1 3 (tLaw hand cells right box (m : Nat)) [.v (.fls (ns.map .int))] = some (.ok ⟨.bl true, b⟩ ρ') := by
  obtain ⟨ms, l1, l2, e1⟩ := C ns hn
  let I : Sls → Prop := fun w => w = [.v (.fls (ns.map .int)), .own 0 (ms.map .int), .unk, .unk] ∨ w = [.v (.fls (ns.map .int)), .v (.lst (ms.map .int)), .unk, .unk]
  have rg : gRg1 [.int ((ms.map D.int).length : Nat)] = some (((List.range ms.length).map fun i => (D.int (0 + (i : Nat) * 1), D.bl true)).map (·.1)) := by
    rw [gRg1_n (by rw [List.length_map]; omega), List.length_map]
    simp [rgD, Function.comp_def]
  have hf : evItm gRg1 [.e (evPr gLen [.late 1])] [.v (.fls (ns.map .int)), .own 0 (ms.map .int), .unk, .unk] = some (.ok (((List.range ms.length).map fun i => (D.int (0 + (i : Nat) * 1), D.bl true)).map (·.1), none) [.v (.fls (ns.map .int)), .own 0 (ms.map .int), .unk, .unk]) :=
    itm_r (rs := [.inr (.int ((ms.map D.int).length : Nat))]) (ds := [.int ((ms.map D.int).length : Nat)]) (ρ' := [.v (.fls (ns.map .int)), .own 0 (ms.map .int), .unk, .unk]) (by simp (config := { decide := false }) only [k1_ok, k1_ex, k1_no, ret_r, asF_r, asE_r, asI_r, asL_t, as_nil, as_e, as_l, isSet_r, isSet_v, isSet_o, fdR_s, fd_nil, fd_r, fd_l, fdL_v, fdL_o, prC_s, prB_s, prA_r, pr_r, gd_t, sl_r, slK_v, slK_o, k_r, tb_r, tbA_r, tC_s, tB_s, tA_r, t_r, noA_r, not_r, anA_t, anA_f, and_r, orA_t, orA_f, or_r, ifA_t, ifA_f, if_r, anV_t, anV_f, anU_r, andV_r, orV_t, orV_f, orU_r, orV_r, ntV_s, ntU_r, notV_r, tru_b, tru_i, tru_n, tru_t, tru_l, tru_f, free_r, free_u, free_v, free_o, asgK_t, asg_r, asgM_f, asgM_l, asgM_t, acK_s, ac_r, an_r, atL_t, atK_s, at_r, sq_t, sq_l, sq_f, nxK_s, setK_ok, setK_ex, set_r, seq_r, seqK_nx, seqK_rt, seqK_ro, seqK_bk, seqK_ct, seqK_ex, ifs_r, ifK_t, ifK_f, nx_r, bk_r, ct_r, rets_r, retK_ok, retK_ex, rs_r, rsK_v, rsK_o, retN_r, expr_r, exK_ok, exK_ex, crK_s, crL_ok, crL_ex, cr_r, nod_n, nod_1, call_r, ckA_r, callK_r, agR_s, ag_nil, ag_r, ag_l, agL_v, agL_o, ol_nil, ol_r, ol_l, olK_v, olK_o, bk_nil, bkr, bkl, bkK_v, bkK_o, si_r, siA_ok, siA_ex, siE_t, siB_ok, siC_s, siD_s, isOwn_r, isOwn_o, dfA_t, df_r, dfB_nx, dfB_rt, dfB_ex, ba_v, ba_o, ba_n, nm_n, nm_v, nm_o, p_add, p_sub, p_mul, p_mod, p_fdiv, p_neg, p_int, p_intB, p_cmp, p_ixL, p_ixT, p_ixF, p_lenL, p_lenT, p_lenF, p_listT, p_listL, p_tupleL, p_tupleT, List.getElem?_cons_zero, List.getElem?_cons_succ, List.getElem?_nil, List.set_cons_zero, List.set_cons_succ, List.length_cons, List.length_nil, Option.map_some, Option.map_none, List.cons_append, List.nil_append, List.append_nil, Bool.and_true, Bool.true_and, Bool.or_true, Bool.true_or, Bool.and_false, Bool.false_and, Bool.or_false, Bool.false_or, Bool.not_true, Bool.not_false, decide_true, decide_false]) (by simp (config := { decide := false }) only [k1_ok, k1_ex, k1_no, ret_r, asF_r, asE_r, asI_r, asL_t, as_nil, as_e, as_l, isSet_r, isSet_v, isSet_o, fdR_s, fd_nil, fd_r, fd_l, fdL_v, fdL_o, prC_s, prB_s, prA_r, pr_r, gd_t, sl_r, slK_v, slK_o, k_r, tb_r, tbA_r, tC_s, tB_s, tA_r, t_r, noA_r, not_r, anA_t, anA_f, and_r, orA_t, orA_f, or_r, ifA_t, ifA_f, if_r, anV_t, anV_f, anU_r, andV_r, orV_t, orV_f, orU_r, orV_r, ntV_s, ntU_r, notV_r, tru_b, tru_i, tru_n, tru_t, tru_l, tru_f, free_r, free_u, free_v, free_o, asgK_t, asg_r, asgM_f, asgM_l, asgM_t, acK_s, ac_r, an_r, atL_t, atK_s, at_r, sq_t, sq_l, sq_f, nxK_s, setK_ok, setK_ex, set_r, seq_r, seqK_nx, seqK_rt, seqK_ro, seqK_bk, seqK_ct, seqK_ex, ifs_r, ifK_t, ifK_f, nx_r, bk_r, ct_r, rets_r, retK_ok, retK_ex, rs_r, rsK_v, rsK_o, retN_r, expr_r, exK_ok, exK_ex, crK_s, crL_ok, crL_ex, cr_r, nod_n, nod_1, call_r, ckA_r, callK_r, agR_s, ag_nil, ag_r, ag_l, agL_v, agL_o, ol_nil, ol_r, ol_l, olK_v, olK_o, bk_nil, bkr, bkl, bkK_v, bkK_o, si_r, siA_ok, siA_ex, siE_t, siB_ok, siC_s, siD_s, isOwn_r, isOwn_o, dfA_t, df_r, dfB_nx, dfB_rt, dfB_ex, ba_v, ba_o, ba_n, nm_n, nm_v, nm_o, p_add, p_sub, p_mul, p_mod, p_fdiv, p_neg, p_int, p_intB, p_cmp, p_ixL, p_ixT, p_ixF, p_lenL, p_lenT, p_lenF, p_listT, p_listL, p_tupleL, p_tupleT, List.getElem?_cons_zero, List.getElem?_cons_succ, List.getElem?_nil, List.set_cons_zero, List.set_cons_succ, List.length_cons, List.length_nil, Option.map_some, Option.map_none, List.cons_append, List.nil_append, List.append_nil, Bool.and_true, Bool.true_and, Bool.or_true, Bool.true_or, Bool.and_false, Bool.false_and, Bool.or_false, Bool.false_or, Bool.not_true, Bool.not_false, decide_true, decide_false]) rg
  obtain ⟨ρ', e2⟩ := comp_inv (g := asgSl 3) (f := evCall1 right (evCall box [.e (evSl 1), .e (evSl 3)])) (own := [2, 3]) (I := I) hf rfl (.inl rfl) (by rw [List.length_map, List.length_range]; exact Nat.le_trans (Nat.le_trans l2 hm) (by decide)) fun p hp w hw => by
    obtain ⟨i, hi, rfl⟩ := List.mem_map.mp hp
    have hi := List.mem_range.mp hi
    obtain ⟨x, y, X, e3⟩ := B ms i hi (by omega)
    obtain ⟨x', z', e4⟩ := RI x y 0 (X.less hc)
    have ei : (0 + ((i : Nat) : Int) * 1) = (i : Int) := by omega
    rw [ei]
    rcases hw with rfl | rfl
    · refine ⟨[.v (.fls (ns.map .int)), .own 0 (ms.map .int), .unk, .v (.int (i : Nat))], [.v (.fls (ns.map .int)), .v (.lst (ms.map .int)), .unk, .v (.int (i : Nat))], ⟨.bl true, false⟩, rfl, call1_r (sl := [.own 1 (bx x' y z')]) (ds := bx x y 0) (r := ⟨.bl true, false⟩) (by simp (config := { decide := false }) only [k1_ok, k1_ex, k1_no, ret_r, asF_r, asE_r, asI_r, asL_t, as_nil, as_e, as_l, isSet_r, isSet_v, isSet_o, fdR_s, fd_nil, fd_r, fd_l, fdL_v, fdL_o, prC_s, prB_s, prA_r, pr_r, gd_t, sl_r, slK_v, slK_o, k_r, tb_r, tbA_r, tC_s, tB_s, tA_r, t_r, noA_r, not_r, anA_t, anA_f, and_r, orA_t, orA_f, or_r, ifA_t, ifA_f, if_r, anV_t, anV_f, anU_r, andV_r, orV_t, orV_f, orU_r, orV_r, ntV_s, ntU_r, notV_r, tru_b, tru_i, tru_n, tru_t, tru_l, tru_f, free_r, free_u, free_v, free_o, asgK_t, asg_r, asgM_f, asgM_l, asgM_t, acK_s, ac_r, an_r, atL_t, atK_s, at_r, sq_t, sq_l, sq_f, nxK_s, setK_ok, setK_ex, set_r, seq_r, seqK_nx, seqK_rt, seqK_ro, seqK_bk, seqK_ct, seqK_ex, ifs_r, ifK_t, ifK_f, nx_r, bk_r, ct_r, rets_r, retK_ok, retK_ex, rs_r, rsK_v, rsK_o, retN_r, expr_r, exK_ok, exK_ex, crK_s, crL_ok, crL_ex, cr_r, nod_n, nod_1, call_r, ckA_r, callK_r, agR_s, ag_nil, ag_r, ag_l, agL_v, agL_o, ol_nil, ol_r, ol_l, olK_v, olK_o, bk_nil, bkr, bkl, bkK_v, bkK_o, si_r, siA_ok, siA_ex, siE_t, siB_ok, siC_s, siD_s, isOwn_r, isOwn_o, dfA_t, df_r, dfB_nx, dfB_rt, dfB_ex, ba_v, ba_o, ba_n, nm_n, nm_v, nm_o, p_add, p_sub, p_mul, p_mod, p_fdiv, p_neg, p_int, p_intB, p_cmp, p_ixL, p_ixT, p_ixF, p_lenL, p_lenT, p_lenF, p_listT, p_listL, p_tupleL, p_tupleT, List.getElem?_cons_zero, List.getElem?_cons_succ, List.getElem?_nil, List.set_cons_zero, List.set_cons_succ, List.length_cons, List.length_nil, Option.map_some, Option.map_none, List.cons_append, List.nil_append, List.append_nil, Bool.and_true, Bool.true_and, Bool.or_true, Bool.true_or, Bool.and_false, Bool.false_and, Bool.or_false, Bool.false_or, Bool.not_true, Bool.not_false, decide_true, decide_false, e3]) e4, rfl, rfl, .inr rfl⟩
    · refine ⟨[.v (.fls (ns.map .int)), .v (.lst (ms.map .int)), .unk, .v (.int (i : Nat))], [.v (.fls (ns.map .int)), .v (.lst (ms.map .int)), .unk, .v (.int (i : Nat))], ⟨.bl true, false⟩, rfl, call1_r (sl := [.own 1 (bx x' y z')]) (ds := bx x y 0) (r := ⟨.bl true, false⟩) (by simp (config := { decide := false }) only [k1_ok, k1_ex, k1_no, ret_r, asF_r, asE_r, asI_r, asL_t, as_nil, as_e, as_l, isSet_r, isSet_v, isSet_o, fdR_s, fd_nil, fd_r, fd_l, fdL_v, fdL_o, prC_s, prB_s, prA_r, pr_r, gd_t, sl_r, slK_v, slK_o, k_r, tb_r, tbA_r, tC_s, tB_s, tA_r, t_r, noA_r, not_r, anA_t, anA_f, and_r, orA_t, orA_f, or_r, ifA_t, ifA_f, if_r, anV_t, anV_f, anU_r, andV_r, orV_t, orV_f, orU_r, orV_r, ntV_s, ntU_r, notV_r, tru_b, tru_i, tru_n, tru_t, tru_l, tru_f, free_r, free_u, free_v, free_o, asgK_t, asg_r, asgM_f, asgM_l, asgM_t, acK_s, ac_r, an_r, atL_t, atK_s, at_r, sq_t, sq_l, sq_f, nxK_s, setK_ok, setK_ex, set_r, seq_r, seqK_nx, seqK_rt, seqK_ro, seqK_bk, seqK_ct, seqK_ex, ifs_r, ifK_t, ifK_f, nx_r, bk_r, ct_r, rets_r, retK_ok, retK_ex, rs_r, rsK_v, rsK_o, retN_r, expr_r, exK_ok, exK_ex, crK_s, crL_ok, crL_ex, cr_r, nod_n, nod_1, call_r, ckA_r, callK_r, agR_s, ag_nil, ag_r, ag_l, agL_v, agL_o, ol_nil, ol_r, ol_l, olK_v, olK_o, bk_nil, bkr, bkl, bkK_v, bkK_o, si_r, siA_ok, siA_ex, siE_t, siB_ok, siC_s, siD_s, isOwn_r, isOwn_o, dfA_t, df_r, dfB_nx, dfB_rt, dfB_ex, ba_v, ba_o, ba_n, nm_n, nm_v, nm_o, p_add, p_sub, p_mul, p_mod, p_fdiv, p_neg, p_int, p_intB, p_cmp, p_ixL, p_ixT, p_ixF, p_lenL, p_lenT, p_lenF, p_listT, p_listL, p_tupleL, p_tupleT, List.getElem?_cons_zero, List.getElem?_cons_succ, List.getElem?_nil, List.set_cons_zero, List.set_cons_succ, List.length_cons, List.length_nil, Option.map_some, Option.map_none, List.cons_append, List.nil_append, List.append_nil, Bool.and_true, Bool.true_and, Bool.or_true, Bool.true_or, Bool.and_false, Bool.false_and, Bool.or_false, Bool.false_or, Bool.not_true, Bool.not_false, decide_true, decide_false, e3]) e4, rfl, rfl, .inr rfl⟩
  have ea : ((List.range ms.length).map fun i => (D.int (0 + (i : Nat) * 1), D.bl true)).map (·.2) = (ms.map D.int).map fun _ => D.bl true := by
    rw [List.map_map, List.map_map]
    refine List.ext_getElem (by simp) fun i h1 h2 => by simp
  rw [ea] at e2
  refine ⟨false, backA [.v (.fls (ns.map .int))] ρ', ?_⟩
  have s1 : sIf (evNotT (evT (.e (evCall hand [])))) (sRet (evK (.bl false))) sNx [.v (.fls (ns.map .int)), .unk, .unk, .unk] = some (.nx [.v (.fls (ns.map .int)), .unk, .unk, .unk]) := by
    simp (config := { decide := false }) only [k1_ok, k1_ex, k1_no, ret_r, asF_r, asE_r, asI_r, asL_t, as_nil, as_e, as_l, isSet_r, isSet_v, isSet_o, fdR_s, fd_nil, fd_r, fd_l, fdL_v, fdL_o, prC_s, prB_s, prA_r, pr_r, gd_t, sl_r, slK_v, slK_o, k_r, tb_r, tbA_r, tC_s, tB_s, tA_r, t_r, noA_r, not_r, anA_t, anA_f, and_r, orA_t, orA_f, or_r, ifA_t, ifA_f, if_r, anV_t, anV_f, anU_r, andV_r, orV_t, orV_f, orU_r, orV_r, ntV_s, ntU_r, notV_r, tru_b, tru_i, tru_n, tru_t, tru_l, tru_f, free_r, free_u, free_v, free_o, asgK_t, asg_r, asgM_f, asgM_l, asgM_t, acK_s, ac_r, an_r, atL_t, atK_s, at_r, sq_t, sq_l, sq_f, nxK_s, setK_ok, setK_ex, set_r, seq_r, seqK_nx, seqK_rt, seqK_ro, seqK_bk, seqK_ct, seqK_ex, ifs_r, ifK_t, ifK_f, nx_r, bk_r, ct_r, rets_r, retK_ok, retK_ex, rs_r, rsK_v, rsK_o, retN_r, expr_r, exK_ok, exK_ex, crK_s, crL_ok, crL_ex, cr_r, nod_n, nod_1, call_r, ckA_r, callK_r, agR_s, ag_nil, ag_r, ag_l, agL_v, agL_o, ol_nil, ol_r, ol_l, olK_v, olK_o, bk_nil, bkr, bkl, bkK_v, bkK_o, si_r, siA_ok, siA_ex, siE_t, siB_ok, siC_s, siD_s, isOwn_r, isOwn_o, dfA_t, df_r, dfB_nx, dfB_rt, dfB_ex, ba_v, ba_o, ba_n, nm_n, nm_v, nm_o, p_add, p_sub, p_mul, p_mod, p_fdiv, p_neg, p_int, p_intB, p_cmp, p_ixL, p_ixT, p_ixF, p_lenL, p_lenT, p_lenF, p_listT, p_listL, p_tupleL, p_tupleT, List.getElem?_cons_zero, List.getElem?_cons_succ, List.getElem?_nil, List.set_cons_zero, List.set_cons_succ, List.length_cons, List.length_nil, Option.map_some, Option.map_none, List.cons_append, List.nil_append, List.append_nil, Bool.and_true, Bool.true_and, Bool.or_true, Bool.true_or, Bool.and_false, Bool.false_and, Bool.or_false, Bool.false_or, Bool.not_true, Bool.not_false, decide_true, decide_false, hH]
  have s2 : sSet (asgSl 1) (evCall cells [.e (evSl 0), .e (evK (.int (m : Nat)))]) [.v (.fls (ns.map .int)), .unk, .unk, .unk] = some (.nx [.v (.fls (ns.map .int)), .own 0 (ms.map .int), .unk, .unk]) := by
    simp (config := { decide := false }) only [k1_ok, k1_ex, k1_no, ret_r, asF_r, asE_r, asI_r, asL_t, as_nil, as_e, as_l, isSet_r, isSet_v, isSet_o, fdR_s, fd_nil, fd_r, fd_l, fdL_v, fdL_o, prC_s, prB_s, prA_r, pr_r, gd_t, sl_r, slK_v, slK_o, k_r, tb_r, tbA_r, tC_s, tB_s, tA_r, t_r, noA_r, not_r, anA_t, anA_f, and_r, orA_t, orA_f, or_r, ifA_t, ifA_f, if_r, anV_t, anV_f, anU_r, andV_r, orV_t, orV_f, orU_r, orV_r, ntV_s, ntU_r, notV_r, tru_b, tru_i, tru_n, tru_t, tru_l, tru_f, free_r, free_u, free_v, free_o, asgK_t, asg_r, asgM_f, asgM_l, asgM_t, acK_s, ac_r, an_r, atL_t, atK_s, at_r, sq_t, sq_l, sq_f, nxK_s, setK_ok, setK_ex, set_r, seq_r, seqK_nx, seqK_rt, seqK_ro, seqK_bk, seqK_ct, seqK_ex, ifs_r, ifK_t, ifK_f, nx_r, bk_r, ct_r, rets_r, retK_ok, retK_ex, rs_r, rsK_v, rsK_o, retN_r, expr_r, exK_ok, exK_ex, crK_s, crL_ok, crL_ex, cr_r, nod_n, nod_1, call_r, ckA_r, callK_r, agR_s, ag_nil, ag_r, ag_l, agL_v, agL_o, ol_nil, ol_r, ol_l, olK_v, olK_o, bk_nil, bkr, bkl, bkK_v, bkK_o, si_r, siA_ok, siA_ex, siE_t, siB_ok, siC_s, siD_s, isOwn_r, isOwn_o, dfA_t, df_r, dfB_nx, dfB_rt, dfB_ex, ba_v, ba_o, ba_n, nm_n, nm_v, nm_o, p_add, p_sub, p_mul, p_mod, p_fdiv, p_neg, p_int, p_intB, p_cmp, p_ixL, p_ixT, p_ixF, p_lenL, p_lenT, p_lenF, p_listT, p_listL, p_tupleL, p_tupleT, List.getElem?_cons_zero, List.getElem?_cons_succ, List.getElem?_nil, List.set_cons_zero, List.set_cons_succ, List.length_cons, List.length_nil, Option.map_some, Option.map_none, List.cons_append, List.nil_append, List.append_nil, Bool.and_true, Bool.true_and, Bool.or_true, Bool.true_or, Bool.and_false, Bool.false_and, Bool.or_false, Bool.false_or, Bool.not_true, Bool.not_false, decide_true, decide_false, e1]
  have s3 : sRet (evPr gAll [.e (evComp (evItm gRg1 [.e (evPr gLen [.late 1])]) (asgSl 3) evYes (evCall1 right (evCall box [.e (evSl 1), .e (evSl 3)])) [2, 3])]) [.v (.fls (ns.map .int)), .own 0 (ms.map .int), .unk, .unk] = some (.rt ⟨.bl true, false⟩ ρ') := by
    exact ret_all e2
  have s4 : tLaw hand cells right box (m : Nat) [.v (.fls (ns.map .int)), .unk, .unk, .unk] = some (.rt ⟨.bl true, false⟩ ρ') := by
    unfold tLaw
    rw [seq_r, s1, seqK_nx, seq_r, s2, seqK_nx, s3]
  have s5 : tLaw hand cells right box (m : Nat) ([.v (.fls (ns.map .int))] ++ List.replicate 3 .unk) = some (.rt ⟨.bl true, false⟩ ρ') := s4
  rw [df_r]
  show dfB [.v (.fls (ns.map .int))] (tLaw hand cells right box (m : Nat) ([.v (.fls (ns.map .int))] ++ List.replicate 3 .unk)) = _
  rw [s5]; rfl
end L3

/-! N1: pairs of stores, comprehensions and turns, run over known slots. -/
namespace L3
open PySem L2
section
variable {α β : Type} {ρ ρ' ρ1 : Sls} {i j k n : Nat} {d e : D} {ds es : List D} {r : R} {rs : List (Nat ⊕ D)} {f g h fe : Ev R} {t u : Ev Bool} {b : Bool} {x : Exc}
def parN (j : Nat) (d : D) : Option Sls → Option SOut
  | some ρ => nxK (asgSl j ⟨d, false⟩ ρ)
  | none => none
theorem parN_s : parN j d (some ρ) = nxK (asgSl j ⟨d, false⟩ ρ) := rfl
def parL (i j : Nat) (ρ : Sls) : Option (List D) → Option SOut
  | some [c, d] => parN j d (asgSl i ⟨c, false⟩ ρ)
  | _ => none
theorem parL_s : parL i j ρ (some [d, e]) = parN j e (asgSl i ⟨d, false⟩ ρ) := rfl
def parK (i j : Nat) : Option (Out (List (Nat ⊕ D))) → Option SOut
  | some (.ok rs ρ) => parL i j ρ (finD ρ rs)
  | some (.ex e ρ) => some (.ex e ρ)
  | none => none
theorem parK_ok : parK i j (some (.ok rs ρ)) = parL i j ρ (finD ρ rs) := rfl
theorem par_c : sPar i j f g ρ = parK i j (evAs [.e f, .e g] ρ) := by
  unfold sPar
  cases evAs [.e f, .e g] ρ with
  | none => rfl
  | some o => cases o with
    | ex e ρ' => rfl
    | ok rs ρ1 =>
      show _ = parL i j ρ1 (finD ρ1 rs)
      dsimp only
      match finD ρ1 rs with
      | none => rfl
      | some [] => rfl
      | some [_] => rfl
      | some [c, d] =>
        show _ = parN j d (asgSl i ⟨c, false⟩ ρ1)
        dsimp only
        cases asgSl i ⟨c, false⟩ ρ1 with
        | none => rfl
        | some ρ2 => show (asgSl j ⟨d, false⟩ ρ2).map .nx = nxK (asgSl j ⟨d, false⟩ ρ2); cases asgSl j ⟨d, false⟩ ρ2 <;> rfl
      | some (_ :: _ :: _ :: _) => rfl
/-- one item of a comprehension -/
noncomputable def itC (own : List Nat) (w : Sls) : Option (Out R) → Option (Option D)
  | some (.ok r ρ) => open Classical in if noOwn ρ own = true ∧ wipeS ρ own = w then some (some r.d) else none
  | _ => none
theorem itC_ok {own : List Nat} {w : Sls} (h : noOwn ρ own = true ∧ wipeS ρ own = w) : itC own w (some (.ok r ρ)) = some (some r.d) := if_pos h
noncomputable def itB (own : List Nat) (w : Sls) (f : Ev R) : Option (Out Bool) → Option (Option D)
  | some (.ok true ρ) => itC own w (f ρ)
  | some (.ok false ρ) => open Classical in if noOwn ρ own = true ∧ wipeS ρ own = w then some none else none
  | _ => none
theorem itB_t {own : List Nat} {w : Sls} : itB own w f (some (.ok true ρ)) = itC own w (f ρ) := rfl
theorem itB_f {own : List Nat} {w : Sls} (h : noOwn ρ own = true ∧ wipeS ρ own = w) : itB own w f (some (.ok false ρ)) = some none := if_pos h
noncomputable def itA (own : List Nat) (w : Sls) (t : Ev Bool) (f : Ev R) : Option Sls → Option (Option D)
  | some ρ => itB own w f (t ρ)
  | none => none
theorem itA_s {own : List Nat} {w : Sls} : itA own w t f (some ρ) = itB own w f (t ρ) := rfl
noncomputable def itemE (g : TgE) (t : Ev Bool) (f : Ev R) (own : List Nat) (w : Sls) (d : D) : Option (Option D) := itA own w t f (g ⟨d, false⟩ w)
theorem item_r {g : TgE} {own : List Nat} {w : Sls} : itemE g t f own w d = itA own w t f (g ⟨d, false⟩ w) := rfl
theorem yes_r : evYes ρ = some (.ok true ρ) := rfl
theorem loop_q {g : TgE} {own : List Nat} {w : Sls} {F : D → Option D} : ∀ {items : List D} {acc : List D} {ρ : Sls}, wipeS ρ own = w → noOwn ρ own = true → acc.length + items.length ≤ LIM → (∀ d ∈ items, itemE g t f own w d = some (F d)) →
    ∃ ρ', cLoop g t f own items acc ρ = some (acc ++ items.filterMap F, ρ') ∧ wipeS ρ' own = w ∧ noOwn ρ' own = true
  | [], acc, ρ, hw, hn, _, _ => ⟨ρ, by simp [cLoop], hw, hn⟩
  | d :: items, acc, ρ, hw, hn, hl, H => by
    have h0 := H d List.mem_cons_self
    simp only [List.length_cons] at hl
    unfold itemE at h0
    simp only [cLoop, hw]
    cases e1 : g ⟨d, false⟩ w with
    | none => rw [e1] at h0; cases h0
    | some ρ2 =>
      rw [e1, itA_s] at h0
      cases e2 : t ρ2 with
      | none => rw [e2] at h0; cases h0
      | some o => cases o with
        | ex x ρ3 => rw [e2] at h0; cases h0
        | ok b ρ3 => cases b with
          | false =>
            rw [e2] at h0
            have h0 : (open Classical in if noOwn ρ3 own = true ∧ wipeS ρ3 own = w then some none else none) = some (F d) := h0
            split at h0
            · rename_i c
              have hF : F d = none := (Option.some.inj h0).symm
              obtain ⟨ρ', q, q1, q2⟩ := loop_q (items := items) (acc := acc) (ρ := ρ3) c.2 c.1 (by omega) fun x hx => H x (List.mem_cons_of_mem _ hx)
              refine ⟨ρ', ?_, q1, q2⟩
              simp only [e2, c.1, q, List.filterMap_cons, hF]
            · cases h0
          | true =>
            rw [e2, itB_t] at h0
            cases e3 : f ρ3 with
            | none => rw [e3] at h0; cases h0
            | some o => cases o with
              | ex x ρ4 => rw [e3] at h0; cases h0
              | ok r ρ4 =>
                rw [e3] at h0
                have h0 : (open Classical in if noOwn ρ4 own = true ∧ wipeS ρ4 own = w then some (some r.d) else none) = some (F d) := h0
                split at h0
                · rename_i c
                  have hF : F d = some r.d := (Option.some.inj h0).symm
                  obtain ⟨ρ', q, q1, q2⟩ := loop_q (items := items) (acc := acc ++ [r.d]) (ρ := ρ4) c.2 c.1 (by simp; omega) fun x hx => H x (List.mem_cons_of_mem _ hx)
                  refine ⟨ρ', ?_, q1, q2⟩
                  have hb : (noOwn ρ4 own && Nat.blt acc.length LIM) = true := by
                    rw [c.1, Bool.true_and]
                    exact Nat.ble_eq_true_of_le (by omega)
                  simp only [e2, e3, hb, q, List.filterMap_cons, hF]
                  simp
                · cases h0
/-- a comprehension whose items do nothing -/
theorem comp_f {fi : EvI} {g : TgE} {own : List Nat} (items : List D) (F : D → Option D) (hf : fi ρ = some (.ok (items, none) ρ)) (hn : noOwn ρ own = true) (hl : items.length ≤ LIM) (H : ∀ d ∈ items, itemE g t f own (wipeS ρ own) d = some (F d)) :
    evComp fi g t f own ρ = some (.ok ⟨.lst (items.filterMap F), true⟩ ρ) := by
  obtain ⟨ρ', e, q1, q2⟩ := loop_q (acc := []) rfl hn (by simpa using hl) H
  have c : cRun g t f own items ρ = some (items.filterMap F, ρ) := by
    unfold cRun
    simp only [hn, e, List.nil_append, rest_same hn q1]
  show (fi.bind _) ρ = _
  unfold Ev.bind
  simp only [hf, c]
theorem comp_q {fi : EvI} {g : TgE} {own : List Nat} (items : List D) (F : D → D) (hf : fi ρ = some (.ok (items, none) ρ)) (hn : noOwn ρ own = true) (hl : items.length ≤ LIM) (H : ∀ d ∈ items, itemE g t f own (wipeS ρ own) d = some (some (F d))) :
    evComp fi g t f own ρ = some (.ok ⟨.lst (items.map F), true⟩ ρ) := by
  rw [comp_f items (fun d => some (F d)) hf hn hl H, List.filterMap_eq_map' ]
end
/-- what else stands in the frame: nothing that is lent or locked -/
def Jk (J : Sls) : Prop := ∀ s ∈ J, freeK (some s) = true
theorem jk_nil : Jk [] := fun s h => nomatch h
theorem jk_cons {s : Slot} {J : Sls} : Jk (s :: J) ↔ freeK (some s) = true ∧ Jk J := by
  simp [Jk]
theorem jk_split {n : Nat} {J : Sls} (h : J.length = n + 1) (k : Jk J) : ∃ s J', J = s :: J' ∧ freeK (some s) = true ∧ J'.length = n ∧ Jk J' := by
  cases J with
  | nil => cases h
  | cons s J => exact ⟨s, J, rfl, (jk_cons.mp k).1, by simpa using h, (jk_cons.mp k).2⟩
theorem jk_0 {J : Sls} (h : J.length = 0) : J = [] := List.length_eq_zero_iff.mp h
/-- a turn of the law: it takes at most c draws; the last u slots are those of comprehensions -/
def TurnOk (body : EvS) (m u c : Nat) : Prop := ∀ (x y z : Int) (C : Nat) (v : Int) (J : Sls), Bx x y z (C + c) → J.length = m → Jk J →
  ∃ x' z' J', Bx x' y z' C ∧ J'.length = m ∧ Jk J' ∧ body (.own 1 (bx x y z) :: .v (.int v) :: (J ++ List.replicate u .unk)) = some (.nx (.own 1 (bx x' y z') :: .v (.int v) :: (J' ++ List.replicate u .unk)))
theorem turns_for {body : EvS} {m u c : Nat} (H : TurnOk body m u c) : ∀ (is : List Int) (x y z : Int) (C : Nat) (s : Slot) (J : Sls), freeK (some s) = true → Bx x y z (C + c * is.length) → J.length = m → Jk J →
    ∃ x' z' s' J', Bx x' y z' C ∧ freeK (some s') = true ∧ J'.length = m ∧ Jk J' ∧ evFor (asgSl 1) body (is.map .int) (.own 1 (bx x y z) :: s :: (J ++ List.replicate u .unk)) = some (.nx (.own 1 (bx x' y z') :: s' :: (J' ++ List.replicate u .unk)))
  | [], x, y, z, C, s, J, f, B, hl, hk => ⟨x, z, s, J, B.less (by simp), f, hl, hk, rfl⟩
  | i :: is, x, y, z, C, s, J, f1, B, hl, hk => by
    obtain ⟨x1, z1, J2, B2, l2, k2, e2⟩ := H x y z (C + c * is.length) i J (B.less (by simp only [List.length_cons, Nat.mul_add, Nat.mul_one]; omega)) hl hk
    obtain ⟨x3, z3, s3, J3, B3, f3, l3, k3, e3⟩ := turns_for H is x1 y z1 C (.v (.int i)) J2 rfl B2 l2 k2
    refine ⟨x3, z3, s3, J3, B3, f3, l3, k3, (for_nx ?_ e2).trans e3⟩
    simp (config := { decide := false }) only [k1_ok, k1_ex, k1_no, ret_r, asF_r, asE_r, asI_r, asL_t, as_nil, as_e, as_l, isSet_r, isSet_v, isSet_o, fdR_s, fd_nil, fd_r, fd_l, fdL_v, fdL_o, prC_s, prB_s, prA_r, pr_r, gd_t, sl_r, slK_v, slK_o, k_r, tb_r, tbA_r, tC_s, tB_s, tA_r, t_r, noA_r, not_r, anA_t, anA_f, and_r, orA_t, orA_f, or_r, ifA_t, ifA_f, if_r, anV_t, anV_f, anU_r, andV_r, orV_t, orV_f, orU_r, orV_r, ntV_s, ntU_r, notV_r, tru_b, tru_i, tru_n, tru_t, tru_l, tru_f, free_r, free_u, free_v, free_o, asgK_t, asg_r, asgM_f, asgM_l, asgM_t, acK_s, ac_r, an_r, atL_t, atK_s, at_r, sq_t, sq_l, sq_f, nxK_s, setK_ok, setK_ex, set_r, seq_r, seqK_nx, seqK_rt, seqK_ro, seqK_bk, seqK_ct, seqK_ex, ifs_r, ifK_t, ifK_f, nx_r, bk_r, ct_r, rets_r, retK_ok, retK_ex, rs_r, rsK_v, rsK_o, retN_r, expr_r, exK_ok, exK_ex, crK_s, crL_ok, crL_ex, cr_r, nod_n, nod_1, call_r, ckA_r, callK_r, agR_s, ag_nil, ag_r, ag_l, agL_v, agL_o, ol_nil, ol_r, ol_l, olK_v, olK_o, bk_nil, bkr, bkl, bkK_v, bkK_o, si_r, siA_ok, siA_ex, siE_t, siB_ok, siC_s, siD_s, isOwn_r, isOwn_o, dfA_t, df_r, dfB_nx, dfB_rt, dfB_ex, ba_v, ba_o, ba_n, nm_n, nm_v, nm_o, p_add, p_sub, p_mul, p_mod, p_fdiv, p_neg, p_int, p_intB, p_cmp, p_ixL, p_ixT, p_ixF, p_lenL, p_lenT, p_lenF, p_listT, p_listL, p_tupleL, p_tupleT, List.getElem?_cons_zero, List.getElem?_cons_succ, List.getElem?_nil, List.set_cons_zero, List.set_cons_succ, List.length_cons, List.length_nil, Option.map_some, Option.map_none, List.cons_append, List.nil_append, List.append_nil, Bool.and_true, Bool.true_and, Bool.or_true, Bool.true_or, Bool.and_false, Bool.false_and, Bool.or_false, Bool.false_or, Bool.not_true, Bool.not_false, decide_true, decide_false, f1]
theorem rgD_ints (n : Nat) : rgD 0 1 n = ((List.range n).map fun i => ((i : Nat) : Int)).map .int := by
  simp [rgD, Function.comp_def]
/-- for turn in range(k): body; return True -/
theorem turns_ok' {body : EvS} {m u c k n : Nat} (hn : n = 1 + m + u) (hk : (k : Int) < 4611686018427387904) (H : TurnOk body m u c) : RightOk (defEv 1 n (sSeq (sFor (evItm gRg1 [.e (evK (.int (k : Nat)))]) (asgSl 1) body) (sRet (evK (.bl true))))) (c * k) := by
  intro x y z B
  have hl : (List.replicate m Slot.unk).length = m := List.length_replicate
  have hj : Jk (List.replicate m Slot.unk) := fun s hs => by rw [(List.mem_replicate.mp hs).2]; rfl
  obtain ⟨x', z', s', J', B', f', l', k', e⟩ := turns_for H ((List.range k).map fun i => ((i : Nat) : Int)) x y z 0 .unk (List.replicate m Slot.unk) rfl (B.less (by simp)) hl hj
  have er : Slot.unk :: (List.replicate m Slot.unk ++ List.replicate u .unk) = List.replicate n .unk := by
    rw [List.replicate_append_replicate, hn, Nat.add_assoc, Nat.add_comm 1]; rfl
  rw [er] at e
  have hi : evItm gRg1 [.e (evK (.int (k : Nat)))] (.own 1 (bx x y z) :: List.replicate n Slot.unk) = some (.ok (((List.range k).map fun i => ((i : Nat) : Int)).map .int, none) (.own 1 (bx x y z) :: List.replicate n Slot.unk)) :=
    itm_r (rs := [.inr (.int (k : Nat))]) (ds := [.int (k : Nat)]) (ρ' := .own 1 (bx x y z) :: List.replicate n Slot.unk) (by simp (config := { decide := false }) only [k1_ok, k1_ex, k1_no, ret_r, asF_r, asE_r, asI_r, asL_t, as_nil, as_e, as_l, isSet_r, isSet_v, isSet_o, fdR_s, fd_nil, fd_r, fd_l, fdL_v, fdL_o, prC_s, prB_s, prA_r, pr_r, gd_t, sl_r, slK_v, slK_o, k_r, tb_r, tbA_r, tC_s, tB_s, tA_r, t_r, noA_r, not_r, anA_t, anA_f, and_r, orA_t, orA_f, or_r, ifA_t, ifA_f, if_r, anV_t, anV_f, anU_r, andV_r, orV_t, orV_f, orU_r, orV_r, ntV_s, ntU_r, notV_r, tru_b, tru_i, tru_n, tru_t, tru_l, tru_f, free_r, free_u, free_v, free_o, asgK_t, asg_r, asgM_f, asgM_l, asgM_t, acK_s, ac_r, an_r, atL_t, atK_s, at_r, sq_t, sq_l, sq_f, nxK_s, setK_ok, setK_ex, set_r, seq_r, seqK_nx, seqK_rt, seqK_ro, seqK_bk, seqK_ct, seqK_ex, ifs_r, ifK_t, ifK_f, nx_r, bk_r, ct_r, rets_r, retK_ok, retK_ex, rs_r, rsK_v, rsK_o, retN_r, expr_r, exK_ok, exK_ex, crK_s, crL_ok, crL_ex, cr_r, nod_n, nod_1, call_r, ckA_r, callK_r, agR_s, ag_nil, ag_r, ag_l, agL_v, agL_o, ol_nil, ol_r, ol_l, olK_v, olK_o, bk_nil, bkr, bkl, bkK_v, bkK_o, si_r, siA_ok, siA_ex, siE_t, siB_ok, siC_s, siD_s, isOwn_r, isOwn_o, dfA_t, df_r, dfB_nx, dfB_rt, dfB_ex, ba_v, ba_o, ba_n, nm_n, nm_v, nm_o, p_add, p_sub, p_mul, p_mod, p_fdiv, p_neg, p_int, p_intB, p_cmp, p_ixL, p_ixT, p_ixF, p_lenL, p_lenT, p_lenF, p_listT, p_listL, p_tupleL, p_tupleT, List.getElem?_cons_zero, List.getElem?_cons_succ, List.getElem?_nil, List.set_cons_zero, List.set_cons_succ, List.length_cons, List.length_nil, Option.map_some, Option.map_none, List.cons_append, List.nil_append, List.append_nil, Bool.and_true, Bool.true_and, Bool.or_true, Bool.true_or, Bool.and_false, Bool.false_and, Bool.or_false, Bool.false_or, Bool.not_true, Bool.not_false, decide_true, decide_false]) (by simp (config := { decide := false }) only [k1_ok, k1_ex, k1_no, ret_r, asF_r, asE_r, asI_r, asL_t, as_nil, as_e, as_l, isSet_r, isSet_v, isSet_o, fdR_s, fd_nil, fd_r, fd_l, fdL_v, fdL_o, prC_s, prB_s, prA_r, pr_r, gd_t, sl_r, slK_v, slK_o, k_r, tb_r, tbA_r, tC_s, tB_s, tA_r, t_r, noA_r, not_r, anA_t, anA_f, and_r, orA_t, orA_f, or_r, ifA_t, ifA_f, if_r, anV_t, anV_f, anU_r, andV_r, orV_t, orV_f, orU_r, orV_r, ntV_s, ntU_r, notV_r, tru_b, tru_i, tru_n, tru_t, tru_l, tru_f, free_r, free_u, free_v, free_o, asgK_t, asg_r, asgM_f, asgM_l, asgM_t, acK_s, ac_r, an_r, atL_t, atK_s, at_r, sq_t, sq_l, sq_f, nxK_s, setK_ok, setK_ex, set_r, seq_r, seqK_nx, seqK_rt, seqK_ro, seqK_bk, seqK_ct, seqK_ex, ifs_r, ifK_t, ifK_f, nx_r, bk_r, ct_r, rets_r, retK_ok, retK_ex, rs_r, rsK_v, rsK_o, retN_r, expr_r, exK_ok, exK_ex, crK_s, crL_ok, crL_ex, cr_r, nod_n, nod_1, call_r, ckA_r, callK_r, agR_s, ag_nil, ag_r, ag_l, agL_v, agL_o, ol_nil, ol_r, ol_l, olK_v, olK_o, bk_nil, bkr, bkl, bkK_v, bkK_o, si_r, siA_ok, siA_ex, siE_t, siB_ok, siC_s, siD_s, isOwn_r, isOwn_o, dfA_t, df_r, dfB_nx, dfB_rt, dfB_ex, ba_v, ba_o, ba_n, nm_n, nm_v, nm_o, p_add, p_sub, p_mul, p_mod, p_fdiv, p_neg, p_int, p_intB, p_cmp, p_ixL, p_ixT, p_ixF, p_lenL, p_lenT, p_lenF, p_listT, p_listL, p_tupleL, p_tupleT, List.getElem?_cons_zero, List.getElem?_cons_succ, List.getElem?_nil, List.set_cons_zero, List.set_cons_succ, List.length_cons, List.length_nil, Option.map_some, Option.map_none, List.cons_append, List.nil_append, List.append_nil, Bool.and_true, Bool.true_and, Bool.or_true, Bool.true_or, Bool.and_false, Bool.false_and, Bool.or_false, Bool.false_or, Bool.not_true, Bool.not_false, decide_true, decide_false]) (by rw [gRg1_n hk, rgD_ints])
  have e2 := (for_r (g := asgSl 1) (body := body) hi).trans e
  refine ⟨x', z', ?_⟩
  generalize sFor (evItm gRg1 [.e (evK (.int (k : Nat)))]) (asgSl 1) body = Fo at e2 ⊢
  rw [df_r]
  show dfB [.own 1 (bx x y z)] (sSeq Fo (sRet (evK (.bl true))) ([.own 1 (bx x y z)] ++ List.replicate n .unk)) = _
  simp (config := { decide := false }) only [k1_ok, k1_ex, k1_no, ret_r, asF_r, asE_r, asI_r, asL_t, as_nil, as_e, as_l, isSet_r, isSet_v, isSet_o, fdR_s, fd_nil, fd_r, fd_l, fdL_v, fdL_o, prC_s, prB_s, prA_r, pr_r, gd_t, sl_r, slK_v, slK_o, k_r, tb_r, tbA_r, tC_s, tB_s, tA_r, t_r, noA_r, not_r, anA_t, anA_f, and_r, orA_t, orA_f, or_r, ifA_t, ifA_f, if_r, anV_t, anV_f, anU_r, andV_r, orV_t, orV_f, orU_r, orV_r, ntV_s, ntU_r, notV_r, tru_b, tru_i, tru_n, tru_t, tru_l, tru_f, free_r, free_u, free_v, free_o, asgK_t, asg_r, asgM_f, asgM_l, asgM_t, acK_s, ac_r, an_r, atL_t, atK_s, at_r, sq_t, sq_l, sq_f, nxK_s, setK_ok, setK_ex, set_r, seq_r, seqK_nx, seqK_rt, seqK_ro, seqK_bk, seqK_ct, seqK_ex, ifs_r, ifK_t, ifK_f, nx_r, bk_r, ct_r, rets_r, retK_ok, retK_ex, rs_r, rsK_v, rsK_o, retN_r, expr_r, exK_ok, exK_ex, crK_s, crL_ok, crL_ex, cr_r, nod_n, nod_1, call_r, ckA_r, callK_r, agR_s, ag_nil, ag_r, ag_l, agL_v, agL_o, ol_nil, ol_r, ol_l, olK_v, olK_o, bk_nil, bkr, bkl, bkK_v, bkK_o, si_r, siA_ok, siA_ex, siE_t, siB_ok, siC_s, siD_s, isOwn_r, isOwn_o, dfA_t, df_r, dfB_nx, dfB_rt, dfB_ex, ba_v, ba_o, ba_n, nm_n, nm_v, nm_o, p_add, p_sub, p_mul, p_mod, p_fdiv, p_neg, p_int, p_intB, p_cmp, p_ixL, p_ixT, p_ixF, p_lenL, p_lenT, p_lenF, p_listT, p_listL, p_tupleL, p_tupleT, List.getElem?_cons_zero, List.getElem?_cons_succ, List.getElem?_nil, List.set_cons_zero, List.set_cons_succ, List.length_cons, List.length_nil, Option.map_some, Option.map_none, List.cons_append, List.nil_append, List.append_nil, Bool.and_true, Bool.true_and, Bool.or_true, Bool.true_or, Bool.and_false, Bool.false_and, Bool.or_false, Bool.false_or, Bool.not_true, Bool.not_false, decide_true, decide_false, e2]
end L3

set_option maxRecDepth 100000
namespace L3.X
open PySem L2 L3
def tb : ExTab := []
/-- last_factor: part 0 -/
def t0 (cal : Nat → Ev R) : EvS :=
  sSeq (sWhile (evNotT (evT (.e (evPr (gIsi [.int]) [.late 0]))))
    (sSet (asgSl 0) (evPr gIx [.late 0, .e (evK (.int (1)))])) FUEL)
  (sRetSl 0)
abbrev s0 : Stmt := PySem.Challenge.pw_regroups_k01_reaches_and_starts.main.body.getD 1 (.Pass ⟨0, 0, 0, 0⟩)
def d0 : Df := ⟨"last_factor", "last_factor", s0, ["part"], ["part"], [], ["isinstance", "int"], [], t0⟩
/-- joins_with_ends: grouping 0, found 1, waiting 2, part 3, first 4, last 5, left 6, right 7, join 8 -/
def t1 (cal : Nat → Ev R) : EvS :=
  sSeq (sSet (asgSl 1) (evPr gLst []))
  (sSeq (sSet (asgSl 2) (evPr gLst [.e (evPr gTup [.e (evSl 0), .e (evK (.int (1))), .e (evCall (cal 0) [.e (evSl 0)])])]))
  (sSeq (sWhile (evT (.late 2))
    (sSeq (sSet (asgTup 3 (asgCons (asgSl 3) (asgCons (asgSl 4) (asgCons (asgSl 5) asgNil)))) (evPop 2))
    (sIf (evNotT (evT (.e (evPr (gIsi [.int]) [.late 3]))))
      (sSeq (sSet (asgTup 2 (asgCons (asgSl 6) (asgCons (asgSl 7) asgNil))) (evSl 3))
      (sSeq (sSet (asgSl 8) (evCall (cal 0) [.e (evSl 6)]))
      (sSeq (sExpr (evAppend 1 (evPr gTup [.e (evSl 8), .e (evSl 4), .e (evSl 5)])))
      (sSeq (sExpr (evAppend 2 (evPr gTup [.e (evSl 6), .e (evSl 4), .e (evSl 8)])))
      (sExpr (evAppend 2 (evPr gTup [.e (evSl 7), .e (evPr gAdd [.late 8, .e (evK (.int (1)))]), .e (evSl 5)])))))))
      (sNx))) FUEL)
  (sRet (evPr gSorted [.late 1]))))
abbrev s1 : Stmt := PySem.Challenge.pw_regroups_k01_reaches_and_starts.main.body.getD 2 (.Pass ⟨0, 0, 0, 0⟩)
def d1 : Df := ⟨"joins_with_ends", "joins_with_ends", s1, ["grouping", "found", "waiting", "part", "first", "last", "left", "right", "join"], ["grouping"], [], ["isinstance", "int", "sorted"], [("last_factor", ⟨0, ["part"], [], [false]⟩)], t1⟩
/-- reaches: grouping 0, .0 1, join 2, first 3, last 4 -/
def t2 (cal : Nat → Ev R) : EvS :=
  sRet (evPr gTuple [.e (evComp (evSeq (.e (evCall (cal 1) [.e (evSl 0)]))) (asgTup 3 (asgCons (asgSl 2) (asgCons (asgSl 3) (asgCons (asgSl 4) asgNil)))) evYes (evSl 4) [1, 2, 3, 4])])
abbrev s2 : Stmt := PySem.Challenge.pw_regroups_k01_reaches_and_starts.main.body.getD 3 (.Pass ⟨0, 0, 0, 0⟩)
def d2 : Df := ⟨"reaches", "reaches", s2, ["grouping", ".0", "join", "first", "last"], ["grouping"], [(0, ["grouping"], [0])], ["tuple"], [("joins_with_ends", ⟨1, ["grouping"], [], [false]⟩)], t2⟩
/-- starts: grouping 0, .0 1, join 2, first 3, last 4 -/
def t3 (cal : Nat → Ev R) : EvS :=
  sRet (evPr gTuple [.e (evComp (evSeq (.e (evCall (cal 1) [.e (evSl 0)]))) (asgTup 3 (asgCons (asgSl 2) (asgCons (asgSl 3) (asgCons (asgSl 4) asgNil)))) evYes (evSl 3) [1, 2, 3, 4])])
abbrev s3 : Stmt := PySem.Challenge.pw_regroups_k01_reaches_and_starts.main.body.getD 4 (.Pass ⟨0, 0, 0, 0⟩)
def d3 : Df := ⟨"starts", "starts", s3, ["grouping", ".0", "join", "first", "last"], ["grouping"], [(0, ["grouping"], [0])], ["tuple"], [("joins_with_ends", ⟨1, ["grouping"], [], [false]⟩)], t3⟩
/-- seen_from_behind: rows 0, .0 1, factor 2 -/
def t4 (cal : Nat → Ev R) : EvS :=
  sRet (evPr gTuple [.e (evComp (evSeq (.e (evPr gRevA [.late 0]))) (asgSl 2) evYes (evPr L3.gSub [.e (evPr gAdd [.e (evPr gLen [.late 0]), .e (evK (.int (2)))]), .late 2]) [1, 2])])
abbrev s4 : Stmt := PySem.Challenge.pw_regroups_k01_reaches_and_starts.main.body.getD 5 (.Pass ⟨0, 0, 0, 0⟩)
def d4 : Df := ⟨"seen_from_behind", "seen_from_behind", s4, ["rows", ".0", "factor"], ["rows"], [], ["tuple", "len"], [], t4⟩
/-- of_reaches: rows 0, parts 1, unfinished 2, join 3, reach 4, right 5, left 6 -/
def t5 (cal : Nat → Ev R) : EvS :=
  sSeq (sSet (asgSl 1) (evPr gLst [.e (evK (.int (1)))]))
  (sSeq (sSet (asgSl 2) (evPr gLst []))
  (sSeq (sFor (evItm gEnK ([.e (evSl 0)] ++ [.e (evK (.int (1)))])) (asgTup 2 (asgCons (asgSl 3) (asgCons (asgSl 4) asgNil)))
    (sSeq (sExpr (evAppend 1 (evPr gAdd [.late 3, .e (evK (.int (1)))])))
    (sSeq (sExpr (evAppend 2 (evSl 4)))
    (sWhile (evAndT (evT (.late 2)) (evTB (evPr (gEq id) [.e (evPr gIx [.late 2, .e (evPr gNeg [.e (evK (.int (1)))])]), .e (evPr gAdd [.late 3, .e (evK (.int (1)))])])))
      (sSeq (sExpr (evPop 2))
      (sSeq (sSet (asgSl 5) (evPop 1))
      (sSeq (sSet (asgSl 6) (evPop 1))
      (sExpr (evAppend 1 (evPr gTup [.e (evSl 6), .e (evSl 5)])))))) FUEL))))
  (sRet (evPr gIx [.late 1, .e (evK (.int (0)))]))))
abbrev s5 : Stmt := PySem.Challenge.pw_regroups_k01_reaches_and_starts.main.body.getD 6 (.Pass ⟨0, 0, 0, 0⟩)
def d5 : Df := ⟨"of_reaches", "of_reaches", s5, ["rows", "parts", "unfinished", "join", "reach", "right", "left"], ["rows"], [(0, ["rows"], [0])], ["enumerate"], [], t5⟩
/-- of_starts: rows 0 -/
def t6 (cal : Nat → Ev R) : EvS :=
  sRet (evCall (cal 10) [.e (evCall (cal 5) [.e (evCall (cal 4) [.e (evSl 0)])])])
abbrev s6 : Stmt := PySem.Challenge.pw_regroups_k01_reaches_and_starts.main.body.getD 7 (.Pass ⟨0, 0, 0, 0⟩)
def d6 : Df := ⟨"of_starts", "of_starts", s6, ["rows"], ["rows"], [(0, ["rows"], [0])], [], [("mirrored", ⟨10, ["grouping"], [], [false]⟩), ("of_reaches", ⟨5, ["rows"], [(0, ["rows"], [0])], [false]⟩), ("seen_from_behind", ⟨4, ["rows"], [], [false]⟩)], t6⟩
/-- brackets: grouping 0, .0 1, join 2, first 3, last 4 -/
def t7 (cal : Nat → Ev R) : EvS :=
  sRet (evPr gTuple [.e (evPr gSorted [.e (evComp (evSeq (.e (evCall (cal 1) [.e (evSl 0)]))) (asgTup 3 (asgCons (asgSl 2) (asgCons (asgSl 3) (asgCons (asgSl 4) asgNil)))) evYes (evPr gTup [.e (evSl 3), .e (evSl 4)]) [1, 2, 3, 4])])])
abbrev s7 : Stmt := PySem.Challenge.pw_regroups_k01_reaches_and_starts.main.body.getD 8 (.Pass ⟨0, 0, 0, 0⟩)
def d7 : Df := ⟨"brackets", "brackets", s7, ["grouping", ".0", "join", "first", "last"], ["grouping"], [(0, ["grouping"], [0])], ["tuple", "sorted"], [("joins_with_ends", ⟨1, ["grouping"], [], [false]⟩)], t7⟩
/-- from_left: factors 0, grouping 1, factor 2 -/
def t8 (cal : Nat → Ev R) : EvS :=
  sSeq (sSet (asgSl 1) (evK (.int (1))))
  (sSeq (sFor (evItm gRg2 [.e (evK (.int (2))), .e (evPr gAdd [.late 0, .e (evK (.int (1)))])]) (asgSl 2)
    (sSet (asgSl 1) (evPr gTup [.e (evSl 1), .e (evSl 2)])))
  (sRetSl 1))
abbrev s8 : Stmt := PySem.Challenge.pw_regroups_k01_reaches_and_starts.main.body.getD 9 (.Pass ⟨0, 0, 0, 0⟩)
def d8 : Df := ⟨"from_left", "from_left", s8, ["factors", "grouping", "factor"], ["factors"], [(0, ["factors"], [0])], ["range"], [], t8⟩
/-- from_right: factors 0, grouping 1, factor 2 -/
def t9 (cal : Nat → Ev R) : EvS :=
  sSeq (sSet (asgSl 1) (evSl 0))
  (sSeq (sFor (evItm gRg3 [.e (evPr L3.gSub [.late 0, .e (evK (.int (1)))]), .e (evK (.int (0))), .e (evPr gNeg [.e (evK (.int (1)))])]) (asgSl 2)
    (sSet (asgSl 1) (evPr gTup [.e (evSl 2), .e (evSl 1)])))
  (sRetSl 1))
abbrev s9 : Stmt := PySem.Challenge.pw_regroups_k01_reaches_and_starts.main.body.getD 10 (.Pass ⟨0, 0, 0, 0⟩)
def d9 : Df := ⟨"from_right", "from_right", s9, ["factors", "grouping", "factor"], ["factors"], [(0, ["factors"], [0])], ["range"], [], t9⟩
/-- mirrored: grouping 0 -/
def t10 (cal : Nat → Ev R) : EvS :=
  sRet (evCall (cal 5) [.e (evCall (cal 4) [.e (evCall (cal 3) [.e (evSl 0)])])])
abbrev s10 : Stmt := PySem.Challenge.pw_regroups_k01_reaches_and_starts.main.body.getD 11 (.Pass ⟨0, 0, 0, 0⟩)
def d10 : Df := ⟨"mirrored", "mirrored", s10, ["grouping"], ["grouping"], [], [], [("of_reaches", ⟨5, ["rows"], [(0, ["rows"], [0])], [false]⟩), ("seen_from_behind", ⟨4, ["rows"], [], [false]⟩), ("starts", ⟨3, ["grouping"], [(0, ["grouping"], [0])], [false]⟩)], t10⟩
/-- _law_box: _law_script 0, _law_k 1, _law_cell 2 -/
def t11 (cal : Nat → Ev R) : EvS :=
  sSeq (sSet (asgSl 2) (evIf (evTB (evPr (gCmp fun i j => decide (i < j)) [.late 1, .e (evPr gLen [.late 0])])) (evPr gIx [.late 0, .late 1]) (evK (.int (0)))))
  (sRet (evPr gLst [.e (evPr gMul [.e (evPr gAbs [.late 2]), .e (evPr gInt [.e (evPr (gCmp fun i j => decide (j ≤ i)) [.e (evPr gAbs [.late 2]), .e (evPr gPow [.e (evK (.int (10))), .e (evK (.int (18)))])])])]), .e (evPr gAdd [.e (evPr gAdd [.e (evPr gMod [.e (evPr gInt [.late 2]), .e (evK (.int (2305843009213693951)))]), .e (evPr gMul [.e (evK (.int (39373))), .late 1])]), .e (evK (.int (86241)))]), .e (evK (.int (0)))]))
abbrev s11 : Stmt := PySem.Challenge.pw_regroups_k01_reaches_and_starts.main.body.getD 13 (.Pass ⟨0, 0, 0, 0⟩)
def d11 : Df := ⟨"_law_box", "_law_box", s11, ["_law_script", "_law_k", "_law_cell"], ["_law_script", "_law_k"], [], ["len", "abs", "int"], [], t11⟩
/-- _law_take: _law_box_here 0, _law_below 1, _law_digit_so 2, _law_once 3, _law_odd 4, _law_twice 5 -/
def t12 (cal : Nat → Ev R) : EvS :=
  sSeq (sIf (evTB (evPr (gCmp fun i j => decide (j < i)) [.e (evPr gIx [.late 0, .e (evK (.int (0)))]), .e (evK (.int (0)))]))
    (sSeq (sSet (asgSl 2) (evPr gMod [.e (evPr gInt [.e (evPr gIx [.late 0, .e (evK (.int (0)))])]), .late 1]))
    (sSeq (sSetIx 0 (evK (.int (0))) (evPr gFdiv [.e (evPr gIx [.late 0, .e (evK (.int (0)))]), .late 1]))
    (sRetSl 2)))
    (sNx))
  (sSeq (sSetIx 0 (evK (.int (2))) (evPr gAdd [.e (evPr gIx [.late 0, .e (evK (.int (2)))]), .e (evK (.int (1)))]))
  (sSeq (sSet (asgSl 3) (evPr gMod [.e (evPr gInt [.e (evPr gMul [.e (evPr gAdd [.e (evPr gIx [.late 0, .e (evK (.int (1)))]), .e (evPr gMul [.e (evK (.int (48271))), .e (evPr gIx [.late 0, .e (evK (.int (2)))])])]), .e (evPr gAdd [.e (evK (.int (39373))), .e (evPr gIx [.late 0, .e (evK (.int (2)))])])])]), .e (evK (.int (2147483647)))]))
  (sSeq (sSet (asgSl 4) (evPr gAdd [.e (evPr gMod [.e (evPr gInt [.late 3]), .e (evK (.int (40009)))]), .e (evK (.int (7)))]))
  (sSeq (sSet (asgSl 5) (evPr gMod [.e (evPr gInt [.e (evPr gMul [.e (evPr gAdd [.e (evPr gAdd [.late 3, .e (evPr gIx [.late 0, .e (evK (.int (2)))])]), .e (evPr gFdiv [.e (evPr gIx [.late 0, .e (evK (.int (1)))]), .e (evK (.int (1000003)))])]), .late 4])]), .e (evK (.int (2147483629)))]))
  (sRet (evPr gMod [.e (evPr gInt [.e (evPr gFdiv [.e (evPr gMod [.e (evPr gInt [.e (evPr gAdd [.e (evPr gMul [.late 5, .e (evK (.int (48271)))]), .late 3])]), .e (evK (.int (2147483587)))]), .e (evK (.int (64)))])]), .late 1]))))))
abbrev s12 : Stmt := PySem.Challenge.pw_regroups_k01_reaches_and_starts.main.body.getD 14 (.Pass ⟨0, 0, 0, 0⟩)
def d12 : Df := ⟨"_law_take", "_law_take", s12, ["_law_box_here", "_law_below", "_law_digit_so", "_law_once", "_law_odd", "_law_twice"], ["_law_box_here", "_law_below"], [], ["int"], [], t12⟩
/-- _law_cells: _law_script 0, _law_most_so 1, _law_cells_here 2, _law_k 3, _law_cell 4, _law_at_so 5 -/
def t13 (cal : Nat → Ev R) : EvS :=
  sSeq (sSet (asgSl 2) (evOr (evPr gList [.e (evSli (.late 0) none (some (evSl 1)))]) (evPr gLst [.e (evK (.int (0)))])))
  (sSeq (sFor (evItm gEn1 [.e (evSli (.late 0) (some (evSl 1)) (some (evK (.int (63)))))]) (asgTup 2 (asgCons (asgSl 3) (asgCons (asgSl 4) asgNil)))
    (sSeq (sSet (asgSl 5) (evPr gMod [.e (evPr gInt [.late 3]), .late 1]))
    (sSetIx 2 (evSl 5) (evPr gAdd [.e (evPr gIx [.late 2, .late 5]), .e (evPr gMul [.late 4, .e (evPr gAdd [.late 3, .e (evK (.int (2)))])])]))))
  (sRetSl 2))
abbrev s13 : Stmt := PySem.Challenge.pw_regroups_k01_reaches_and_starts.main.body.getD 15 (.Pass ⟨0, 0, 0, 0⟩)
def d13 : Df := ⟨"_law_cells", "_law_cells", s13, ["_law_script", "_law_most_so", "_law_cells_here", "_law_k", "_law_cell", "_law_at_so"], ["_law_script", "_law_most_so"], [], ["list", "enumerate", "int"], [], t13⟩
/-- _law_same: _law_got 0, _law_due 1, .0 2, _law_mine 3, _law_its 4 -/
def t14 (cal : Nat → Ev R) : EvS :=
  sSeq (sIf (evT (.e (evPr (gIsi [.list, .tuple]) [.late 1])))
    (sSeq (sIf (evOrT (evTB (evPr (gEq not) [.e (evPr (gIsi [.list]) [.late 0]), .e (evPr (gIsi [.list]) [.late 1])])) (evTB (evPr (gEq not) [.e (evPr (gIsi [.tuple]) [.late 0]), .e (evPr (gIsi [.tuple]) [.late 1])])))
      (sRet (evK (.bl false)))
      (sNx))
    (sRet (evAnd (evPr (gEq id) [.e (evPr gLen [.late 0]), .e (evPr gLen [.late 1])]) (evPr gAll [.e (evComp (evItm gZip [.e (evSl 0), .e (evSl 1)]) (asgTup 2 (asgCons (asgSl 3) (asgCons (asgSl 4) asgNil))) evYes (evCall (cal 14) [.e (evSl 3), .e (evSl 4)]) [2, 3, 4])]))))
    (sNx))
  (sSeq (sIf (evOrT (evTB (evPr (gIsN id) [.late 1, .e (evK (.non))])) (evT (.e (evPr (gIsi [.bool, .str]) [.late 1]))))
    (sRet (evAnd (evPr (gEq id) [.late 0, .late 1]) (evAnd (evPr (gEq id) [.e (evPr (gIsi [.bool]) [.late 0]), .e (evPr (gIsi [.bool]) [.late 1])]) (evPr (gEq id) [.e (evPr (gIsN id) [.late 0, .e (evK (.non))]), .e (evPr (gIsN id) [.late 1, .e (evK (.non))])]))))
    (sNx))
  (sRet (evAnd (evPr (gIsi [.int]) [.late 0]) (evAnd (evNot (evPr (gIsi [.bool]) [.late 0])) (evPr (gEq id) [.late 0, .late 1])))))
abbrev s14 : Stmt := PySem.Challenge.pw_regroups_k01_reaches_and_starts.main.body.getD 16 (.Pass ⟨0, 0, 0, 0⟩)
def d14 : Df := ⟨"_law_same", "_law_same", s14, ["_law_got", "_law_due", ".0", "_law_mine", "_law_its"], ["_law_got", "_law_due"], [], ["isinstance", "list", "tuple", "len", "all", "zip", "bool", "str", "int"], [("_law_same", ⟨14, ["_law_got", "_law_due"], [], [false, false]⟩)], t14⟩
/-- _law_grouped: _law_box_here 0, _law_first_so 1, _law_last_so 2, _law_way_so 3, _law_cut_so 4 -/
def t15 (cal : Nat → Ev R) : EvS :=
  sSeq (sIf (evTB (evPr (gEq id) [.late 1, .late 2]))
    (sRetSl 1)
    (sNx))
  (sSeq (sSet (asgSl 3) (evCall (cal 12) [.late 0, .e (evK (.int (4)))]))
  (sSeq (sSet (asgSl 4) (evPr gAdd [.late 1, .e (evCall (cal 12) [.late 0, .e (evPr L3.gSub [.late 2, .late 1])])]))
  (sSeq (sIf (evTB (evPr (gEq id) [.late 3, .e (evK (.int (0)))]))
    (sSet (asgSl 4) (evPr L3.gSub [.late 2, .e (evK (.int (1)))]))
    (sNx))
  (sSeq (sIf (evTB (evPr (gEq id) [.late 3, .e (evK (.int (1)))]))
    (sSet (asgSl 4) (evSl 1))
    (sNx))
  (sRet (evPr gTup [.e (evCall (cal 15) [.late 0, .e (evSl 1), .e (evSl 4)]), .e (evCall (cal 15) [.late 0, .e (evPr gAdd [.late 4, .e (evK (.int (1)))]), .e (evSl 2)])]))))))
abbrev s15 : Stmt := PySem.Challenge.pw_regroups_k01_reaches_and_starts.main.body.getD 17 (.Pass ⟨0, 0, 0, 0⟩)
def d15 : Df := ⟨"_law_grouped", "_law_grouped", s15, ["_law_box_here", "_law_first_so", "_law_last_so", "_law_way_so", "_law_cut_so"], ["_law_box_here", "_law_first_so", "_law_last_so"], [], [], [("_law_take", ⟨12, ["_law_box_here", "_law_below"], [], [true, false]⟩), ("_law_grouped", ⟨15, ["_law_box_here", "_law_first_so", "_law_last_so"], [], [true, false, false]⟩)], t15⟩
/-- _law_ends: _law_tree_so 0, _law_one_so 1, _law_two_so 2 -/
def t16 (cal : Nat → Ev R) : EvS :=
  sSeq (sPar 1 2 (evSl 0) (evSl 0))
  (sSeq (sWhile (evT (.e (evPr (gIsi [.tuple]) [.late 1])))
    (sSet (asgSl 1) (evPr gIx [.late 1, .e (evK (.int (0)))])) FUEL)
  (sSeq (sWhile (evT (.e (evPr (gIsi [.tuple]) [.late 2])))
    (sSet (asgSl 2) (evPr gIx [.late 2, .e (evK (.int (1)))])) FUEL)
  (sRet (evPr gTup [.e (evSl 1), .e (evSl 2)]))))
abbrev s16 : Stmt := PySem.Challenge.pw_regroups_k01_reaches_and_starts.main.body.getD 18 (.Pass ⟨0, 0, 0, 0⟩)
def d16 : Df := ⟨"_law_ends", "_law_ends", s16, ["_law_tree_so", "_law_one_so", "_law_two_so"], ["_law_tree_so"], [], ["isinstance", "tuple"], [], t16⟩
/-- _law_pairs: _law_tree_so 0, _law_first_so 1, _law_cut_so 2 -/
def t17 (cal : Nat → Ev R) : EvS :=
  sSeq (sIf (evNotT (evT (.e (evPr (gIsi [.tuple]) [.late 0]))))
    (sRet (evPr gLst []))
    (sNx))
  (sSeq (sSet (asgTup 2 (asgCons (asgSl 1) (asgCons (asgSl 2) asgNil))) (evCall (cal 16) [.e (evPr gIx [.late 0, .e (evK (.int (0)))])]))
  (sRet (evPr gAdd [.e (evPr gAdd [.e (evCall (cal 17) [.e (evPr gIx [.late 0, .e (evK (.int (0)))])]), .e (evPr gLst [.e (evPr gTup [.e (evSl 1), .e (evSl 2), .e (evPr gIx [.e (evCall (cal 16) [.e (evPr gIx [.late 0, .e (evK (.int (1)))])]), .e (evK (.int (1)))])])])]), .e (evCall (cal 17) [.e (evPr gIx [.late 0, .e (evK (.int (1)))])])])))
abbrev s17 : Stmt := PySem.Challenge.pw_regroups_k01_reaches_and_starts.main.body.getD 19 (.Pass ⟨0, 0, 0, 0⟩)
def d17 : Df := ⟨"_law_pairs", "_law_pairs", s17, ["_law_tree_so", "_law_first_so", "_law_cut_so"], ["_law_tree_so"], [], ["isinstance", "tuple"], [("_law_ends", ⟨16, ["_law_tree_so"], [], [false]⟩), ("_law_pairs", ⟨17, ["_law_tree_so"], [], [false]⟩)], t17⟩
/-- _law_arms: _law_tree_so 0, .0 1, _law_own 2 -/
def t18 (cal : Nat → Ev R) : EvS :=
  sRet (evPr gTuple [.e (evComp (evSeq (.e (evCall (cal 17) [.e (evSl 0)]))) (asgSl 2) evYes (evPr gIx [.late 2, .e (evK (.int (2)))]) [1, 2])])
abbrev s18 : Stmt := PySem.Challenge.pw_regroups_k01_reaches_and_starts.main.body.getD 20 (.Pass ⟨0, 0, 0, 0⟩)
def d18 : Df := ⟨"_law_arms", "_law_arms", s18, ["_law_tree_so", ".0", "_law_own"], ["_law_tree_so"], [], ["tuple"], [("_law_pairs", ⟨17, ["_law_tree_so"], [], [false]⟩)], t18⟩
/-- _law_tails: _law_tree_so 0, .0 1, _law_own 2 -/
def t19 (cal : Nat → Ev R) : EvS :=
  sRet (evPr gTuple [.e (evComp (evSeq (.e (evCall (cal 17) [.e (evSl 0)]))) (asgSl 2) evYes (evPr gIx [.late 2, .e (evK (.int (0)))]) [1, 2])])
abbrev s19 : Stmt := PySem.Challenge.pw_regroups_k01_reaches_and_starts.main.body.getD 21 (.Pass ⟨0, 0, 0, 0⟩)
def d19 : Df := ⟨"_law_tails", "_law_tails", s19, ["_law_tree_so", ".0", "_law_own"], ["_law_tree_so"], [], ["tuple"], [("_law_pairs", ⟨17, ["_law_tree_so"], [], [false]⟩)], t19⟩
/-- _law_soft: _law_matter 0, .0 1, _law_own 2 -/
def t20 (cal : Nat → Ev R) : EvS :=
  sRet (evIf (evT (.e (evPr (gIsi [.list, .tuple]) [.late 0]))) (evComp (evSeq (.late 0)) (asgSl 2) evYes (evCall (cal 20) [.e (evSl 2)]) [1, 2]) (evSl 0))
abbrev s20 : Stmt := PySem.Challenge.pw_regroups_k01_reaches_and_starts.main.body.getD 22 (.Pass ⟨0, 0, 0, 0⟩)
def d20 : Df := ⟨"_law_soft", "_law_soft", s20, ["_law_matter", ".0", "_law_own"], ["_law_matter"], [], ["isinstance", "list", "tuple"], [("_law_soft", ⟨20, ["_law_matter"], [], [false]⟩)], t20⟩
/-- _law_by_hand_right: _law_tree_so 0, _law_got 1, _law_due 2 -/
def t21 (cal : Nat → Ev R) : EvS :=
  sSeq (sSet (asgSl 0) (evPr gTup [.e (evPr gTup [.e (evK (.int (1))), .e (evPr gTup [.e (evK (.int (2))), .e (evK (.int (3)))])]), .e (evK (.int (4)))]))
  (sSeq (sSet (asgSl 1) (evPr gLst [.e (evCall (cal 2) [.e (evSl 0)]), .e (evCall (cal 3) [.e (evSl 0)]), .e (evCall (cal 7) [.e (evSl 0)]), .e (evCall (cal 5) [.e (evPr gTup [.e (evK (.int (2))), .e (evK (.int (3))), .e (evK (.int (4)))])]), .e (evCall (cal 6) [.e (evPr gTup [.e (evK (.int (1))), .e (evK (.int (2))), .e (evK (.int (3)))])])]))
  (sSeq (sSet (asgSl 2) (evPr gLst [.e (evPr gTup [.e (evK (.int (3))), .e (evK (.int (3))), .e (evK (.int (4)))]), .e (evPr gTup [.e (evK (.int (1))), .e (evK (.int (2))), .e (evK (.int (1)))]), .e (evPr gTup [.e (evPr gTup [.e (evK (.int (1))), .e (evK (.int (3)))]), .e (evPr gTup [.e (evK (.int (1))), .e (evK (.int (4)))]), .e (evPr gTup [.e (evK (.int (2))), .e (evK (.int (3)))])]), .e (evPr gTup [.e (evPr gTup [.e (evPr gTup [.e (evK (.int (1))), .e (evK (.int (2)))]), .e (evK (.int (3)))]), .e (evK (.int (4)))]), .e (evPr gTup [.e (evK (.int (1))), .e (evPr gTup [.e (evK (.int (2))), .e (evPr gTup [.e (evK (.int (3))), .e (evK (.int (4)))])])])]))
  (sSeq (sSet (asgSl 1) (evPr gAdd [.late 1, .e (evPr gLst [.e (evCall (cal 5) [.e (evPr gTup [])]), .e (evCall (cal 6) [.e (evPr gTup [])]), .e (evCall (cal 2) [.e (evK (.int (1)))]), .e (evCall (cal 3) [.e (evK (.int (1)))]), .e (evCall (cal 7) [.e (evK (.int (1)))]), .e (evCall (cal 8) [.e (evK (.int (1)))]), .e (evCallK (cal 9) ([] ++ [.e (evK (.int (1)))]) [0])])]))
  (sSeq (sSet (asgSl 2) (evPr gAdd [.late 2, .e (evPr gLst [.e (evK (.int (1))), .e (evK (.int (1))), .e (evPr gTup []), .e (evPr gTup []), .e (evPr gTup []), .e (evK (.int (1))), .e (evK (.int (1)))])]))
  (sSeq (sSet (asgSl 1) (evPr gAdd [.late 1, .e (evPr gLst [.e (evCallK (cal 5) ([] ++ [.e (evPr gLst [.e (evK (.int (3))), .e (evK (.int (3))), .e (evK (.int (4)))])]) [0]), .e (evCallK (cal 6) ([] ++ [.e (evPr gLst [.e (evK (.int (1))), .e (evK (.int (2))), .e (evK (.int (1)))])]) [0]), .e (evCallK (cal 8) ([] ++ [.e (evK (.int (3)))]) [0]), .e (evCall (cal 9) [.e (evK (.int (3)))]), .e (evCall (cal 8) [.e (evK (.int (2)))])])]))
  (sSeq (sSet (asgSl 2) (evPr gAdd [.late 2, .e (evPr gLst [.e (evSl 0), .e (evSl 0), .e (evPr gTup [.e (evPr gTup [.e (evK (.int (1))), .e (evK (.int (2)))]), .e (evK (.int (3)))]), .e (evPr gTup [.e (evK (.int (1))), .e (evPr gTup [.e (evK (.int (2))), .e (evK (.int (3)))])]), .e (evPr gTup [.e (evK (.int (1))), .e (evK (.int (2)))])])]))
  (sSeq (sSet (asgSl 1) (evPr gAdd [.late 1, .e (evPr gLst [.e (evCallK (cal 2) ([] ++ [.e (evPr gLst [.e (evPr gLst [.e (evK (.int (1))), .e (evK (.int (2)))]), .e (evPr gLst [.e (evK (.int (3))), .e (evK (.int (4)))])])]) [0]), .e (evCallK (cal 3) ([] ++ [.e (evPr gLst [.e (evPr gLst [.e (evK (.int (1))), .e (evK (.int (2)))]), .e (evPr gLst [.e (evK (.int (3))), .e (evK (.int (4)))])])]) [0]), .e (evCallK (cal 7) ([] ++ [.e (evPr gLst [.e (evPr gLst [.e (evK (.int (1))), .e (evK (.int (2)))]), .e (evPr gLst [.e (evK (.int (3))), .e (evK (.int (4)))])])]) [0])])]))
  (sSeq (sSet (asgSl 2) (evPr gAdd [.late 2, .e (evPr gLst [.e (evPr gTup [.e (evK (.int (2))), .e (evK (.int (4))), .e (evK (.int (4)))]), .e (evPr gTup [.e (evK (.int (1))), .e (evK (.int (1))), .e (evK (.int (3)))]), .e (evPr gTup [.e (evPr gTup [.e (evK (.int (1))), .e (evK (.int (2)))]), .e (evPr gTup [.e (evK (.int (1))), .e (evK (.int (4)))]), .e (evPr gTup [.e (evK (.int (3))), .e (evK (.int (4)))])])])]))
  (sSeq (sSet (asgSl 1) (evPr gAdd [.late 1, .e (evPr gLst [.e (evCall (cal 2) [.e (evCall (cal 8) [.e (evK (.int (30)))])]), .e (evCall (cal 3) [.e (evCall (cal 8) [.e (evK (.int (30)))])]), .e (evCall (cal 2) [.e (evCall (cal 9) [.e (evK (.int (30)))])]), .e (evCall (cal 3) [.e (evCall (cal 9) [.e (evK (.int (30)))])])])]))
  (sSeq (sSet (asgSl 2) (evPr gAdd [.late 2, .e (evPr gLst [.e (evPr gTupRg [.e (evK (.int (2))), .e (evK (.int (31)))]), .e (evPr gMul [.e (evPr gTup [.e (evK (.int (1)))]), .e (evK (.int (29)))]), .e (evPr gMul [.e (evPr gTup [.e (evK (.int (30)))]), .e (evK (.int (29)))]), .e (evPr gTupRg [.e (evK (.int (1))), .e (evK (.int (30)))])])]))
  (sSeq (sSet (asgSl 1) (evPr gAdd [.late 1, .e (evPr gLst [.e (evPr (gEq id) [.e (evCall (cal 5) [.e (evPr gTupRg [.e (evK (.int (2))), .e (evK (.int (31)))])]), .e (evCall (cal 8) [.e (evK (.int (30)))])]), .e (evPr (gEq id) [.e (evCall (cal 6) [.e (evPr gTupRg [.e (evK (.int (1))), .e (evK (.int (30)))])]), .e (evCall (cal 9) [.e (evK (.int (30)))])])])]))
  (sRet (evCall (cal 14) [.e (evSl 1), .e (evPr gAdd [.late 2, .e (evPr gLst [.e (evK (.bl true)), .e (evK (.bl true))])])])))))))))))))
abbrev s21 : Stmt := PySem.Challenge.pw_regroups_k01_reaches_and_starts.main.body.getD 23 (.Pass ⟨0, 0, 0, 0⟩)
def d21 : Df := ⟨"_law_by_hand_right", "_law_by_hand_right", s21, ["_law_tree_so", "_law_got", "_law_due"], [], [], ["tuple", "range"], [("reaches", ⟨2, ["grouping"], [(0, ["grouping"], [0])], [false]⟩), ("starts", ⟨3, ["grouping"], [(0, ["grouping"], [0])], [false]⟩), ("brackets", ⟨7, ["grouping"], [(0, ["grouping"], [0])], [false]⟩), ("of_reaches", ⟨5, ["rows"], [(0, ["rows"], [0])], [false]⟩), ("of_starts", ⟨6, ["rows"], [(0, ["rows"], [0])], [false]⟩), ("from_left", ⟨8, ["factors"], [(0, ["factors"], [0])], [false]⟩), ("from_right", ⟨9, ["factors"], [(0, ["factors"], [0])], [false]⟩), ("_law_same", ⟨14, ["_law_got", "_law_due"], [], [false, false]⟩)], t21⟩
/-- _law_right: _law_box_here 0, _law_turn 1, _law_size_so 2, _law_tree_so 3, _law_arms_so 4, _law_tails_so 5, _law_soft_here 6, _law_spans_so 7, _law_got 8, .0 9, _law_own 10 -/
def t22 (cal : Nat → Ev R) : EvS :=
  sSeq (sFor (evItm gRg1 [.e (evK (.int (10)))]) (asgSl 1)
    (sSeq (sSet (asgSl 2) (evPr gAdd [.e (evK (.int (1))), .e (evCall (cal 12) [.late 0, .e (evK (.int (16)))])]))
    (sSeq (sSet (asgSl 3) (evCall (cal 15) [.late 0, .e (evK (.int (1))), .e (evSl 2)]))
    (sSeq (sPar 4 5 (evCall (cal 18) [.e (evSl 3)]) (evCall (cal 19) [.e (evSl 3)]))
    (sSeq (sSet (asgSl 6) (evCall (cal 20) [.e (evSl 3)]))
    (sSeq (sSet (asgSl 7) (evPr gTuple [.e (evPr gSorted [.e (evComp (evSeq (.e (evCall (cal 17) [.e (evSl 3)]))) (asgSl 10) evYes (evPr gTup [.e (evPr gIx [.late 10, .e (evK (.int (0)))]), .e (evPr gIx [.late 10, .e (evK (.int (2)))])]) [9, 10])])]))
    (sSeq (sSet (asgSl 8) (evPr gLst [.e (evCall (cal 2) [.e (evSl 3)]), .e (evCall (cal 3) [.e (evSl 3)]), .e (evCall (cal 7) [.e (evSl 3)]), .e (evCall (cal 2) [.e (evSl 6)]), .e (evCall (cal 3) [.e (evSl 6)]), .e (evCall (cal 7) [.e (evSl 6)])]))
    (sSeq (sIf (evNotT (evT (.e (evCall (cal 14) [.e (evSl 8), .e (evPr gMul [.e (evPr gLst [.e (evSl 4), .e (evSl 5), .e (evSl 7)]), .e (evK (.int (2)))])]))))
      (sRet (evK (.bl false)))
      (sNx))
    (sSeq (sSet (asgSl 8) (evPr gLst [.e (evCall (cal 5) [.e (evSl 4)]), .e (evCall (cal 5) [.e (evPr gList [.late 4])]), .e (evCall (cal 6) [.e (evSl 5)]), .e (evCall (cal 6) [.e (evPr gList [.late 5])])]))
    (sIf (evNotT (evT (.e (evCall (cal 14) [.e (evSl 8), .e (evPr gMul [.e (evPr gLst [.e (evSl 3)]), .e (evK (.int (4)))])]))))
      (sRet (evK (.bl false)))
      (sNx)))))))))))
  (sRet (evK (.bl true)))
abbrev s22 : Stmt := PySem.Challenge.pw_regroups_k01_reaches_and_starts.main.body.getD 24 (.Pass ⟨0, 0, 0, 0⟩)
def d22 : Df := ⟨"_law_right", "_law_right", s22, ["_law_box_here", "_law_turn", "_law_size_so", "_law_tree_so", "_law_arms_so", "_law_tails_so", "_law_soft_here", "_law_spans_so", "_law_got", ".0", "_law_own"], ["_law_box_here"], [], ["range", "tuple", "sorted", "list"], [("_law_take", ⟨12, ["_law_box_here", "_law_below"], [], [true, false]⟩), ("_law_grouped", ⟨15, ["_law_box_here", "_law_first_so", "_law_last_so"], [], [true, false, false]⟩), ("_law_arms", ⟨18, ["_law_tree_so"], [], [false]⟩), ("_law_tails", ⟨19, ["_law_tree_so"], [], [false]⟩), ("_law_soft", ⟨20, ["_law_matter"], [], [false]⟩), ("_law_pairs", ⟨17, ["_law_tree_so"], [], [false]⟩), ("reaches", ⟨2, ["grouping"], [(0, ["grouping"], [0])], [false]⟩), ("starts", ⟨3, ["grouping"], [(0, ["grouping"], [0])], [false]⟩), ("brackets", ⟨7, ["grouping"], [(0, ["grouping"], [0])], [false]⟩), ("_law_same", ⟨14, ["_law_got", "_law_due"], [], [false, false]⟩), ("of_reaches", ⟨5, ["rows"], [(0, ["rows"], [0])], [false]⟩), ("of_starts", ⟨6, ["rows"], [(0, ["rows"], [0])], [false]⟩)], t22⟩
/-- law: _law_script 0, _law_cells_here 1, .0 2, _law_k 3 -/
def t23 (cal : Nat → Ev R) : EvS :=
  sSeq (sIf (evNotT (evT (.e (evCall (cal 21) []))))
    (sRet (evK (.bl false)))
    (sNx))
  (sSeq (sSet (asgSl 1) (evCall (cal 13) [.e (evSl 0), .e (evK (.int (3)))]))
  (sRet (evPr gAll [.e (evComp (evItm gRg1 [.e (evPr gLen [.late 1])]) (asgSl 3) evYes (evCall1 (cal 22) (evCall (cal 11) [.e (evSl 1), .e (evSl 3)])) [2, 3])])))
abbrev s23 : Stmt := PySem.Challenge.pw_regroups_k01_reaches_and_starts.main.body.getD 25 (.Pass ⟨0, 0, 0, 0⟩)
def d23 : Df := ⟨"law", "law", s23, ["_law_script", "_law_cells_here", ".0", "_law_k"], ["_law_script"], [], ["all", "range", "len"], [("_law_by_hand_right", ⟨21, [], [], []⟩), ("_law_cells", ⟨13, ["_law_script", "_law_most_so"], [], [false, false]⟩), ("_law_right", ⟨22, ["_law_box_here"], [], [true]⟩), ("_law_box", ⟨11, ["_law_script", "_law_k"], [], [false, false]⟩)], t23⟩
def ds : List Df := [d0, d1, d2, d3, d4, d5, d6, d7, d8, d9, d10, d11, d12, d13, d14, d15, d16, d17, d18, d19, d20, d21, d22, d23]
theorem h0 (cal : Nat → Ev R) : cSs 25 (ccOf tb d0 cal) (defBody d0.st) = some (d0.T cal) := by kernel_rfl
theorem h1 (cal : Nat → Ev R) : cSs 25 (ccOf tb d1 cal) (defBody d1.st) = some (d1.T cal) := by kernel_rfl
theorem h2 (cal : Nat → Ev R) : cSs 25 (ccOf tb d2 cal) (defBody d2.st) = some (d2.T cal) := by kernel_rfl
theorem h3 (cal : Nat → Ev R) : cSs 25 (ccOf tb d3 cal) (defBody d3.st) = some (d3.T cal) := by kernel_rfl
theorem h4 (cal : Nat → Ev R) : cSs 25 (ccOf tb d4 cal) (defBody d4.st) = some (d4.T cal) := by kernel_rfl
theorem h5 (cal : Nat → Ev R) : cSs 25 (ccOf tb d5 cal) (defBody d5.st) = some (d5.T cal) := by kernel_rfl
theorem h6 (cal : Nat → Ev R) : cSs 25 (ccOf tb d6 cal) (defBody d6.st) = some (d6.T cal) := by kernel_rfl
theorem h7 (cal : Nat → Ev R) : cSs 25 (ccOf tb d7 cal) (defBody d7.st) = some (d7.T cal) := by kernel_rfl
theorem h8 (cal : Nat → Ev R) : cSs 25 (ccOf tb d8 cal) (defBody d8.st) = some (d8.T cal) := by kernel_rfl
theorem h9 (cal : Nat → Ev R) : cSs 25 (ccOf tb d9 cal) (defBody d9.st) = some (d9.T cal) := by kernel_rfl
theorem h10 (cal : Nat → Ev R) : cSs 25 (ccOf tb d10 cal) (defBody d10.st) = some (d10.T cal) := by kernel_rfl
theorem h11 (cal : Nat → Ev R) : cSs 25 (ccOf tb d11 cal) (defBody d11.st) = some (d11.T cal) := by kernel_rfl
theorem h12 (cal : Nat → Ev R) : cSs 25 (ccOf tb d12 cal) (defBody d12.st) = some (d12.T cal) := by kernel_rfl
theorem h13 (cal : Nat → Ev R) : cSs 25 (ccOf tb d13 cal) (defBody d13.st) = some (d13.T cal) := by kernel_rfl
theorem h14 (cal : Nat → Ev R) : cSs 25 (ccOf tb d14 cal) (defBody d14.st) = some (d14.T cal) := by kernel_rfl
theorem h15 (cal : Nat → Ev R) : cSs 25 (ccOf tb d15 cal) (defBody d15.st) = some (d15.T cal) := by kernel_rfl
theorem h16 (cal : Nat → Ev R) : cSs 25 (ccOf tb d16 cal) (defBody d16.st) = some (d16.T cal) := by kernel_rfl
theorem h17 (cal : Nat → Ev R) : cSs 25 (ccOf tb d17 cal) (defBody d17.st) = some (d17.T cal) := by kernel_rfl
theorem h18 (cal : Nat → Ev R) : cSs 25 (ccOf tb d18 cal) (defBody d18.st) = some (d18.T cal) := by kernel_rfl
theorem h19 (cal : Nat → Ev R) : cSs 25 (ccOf tb d19 cal) (defBody d19.st) = some (d19.T cal) := by kernel_rfl
theorem h20 (cal : Nat → Ev R) : cSs 25 (ccOf tb d20 cal) (defBody d20.st) = some (d20.T cal) := by kernel_rfl
theorem h21 (cal : Nat → Ev R) : cSs 25 (ccOf tb d21 cal) (defBody d21.st) = some (d21.T cal) := by kernel_rfl
theorem h22 (cal : Nat → Ev R) : cSs 25 (ccOf tb d22 cal) (defBody d22.st) = some (d22.T cal) := by kernel_rfl
theorem h23 (cal : Nat → Ev R) : cSs 25 (ccOf tb d23 cal) (defBody d23.st) = some (d23.T cal) := by kernel_rfl
theorem hC : ds.all (dfC ds) = true := by decide +kernel
theorem hT : ∀ d ∈ ds, ∀ cal, cSs 25 (ccOf tb d cal) (defBody d.st) = some (d.T cal) := by
  intro d hd
  unfold ds at hd
  simp only [List.mem_cons, List.not_mem_nil, or_false] at hd
  rcases hd with rfl | rfl | rfl | rfl | rfl | rfl | rfl | rfl | rfl | rfl | rfl | rfl | rfl | rfl | rfl | rfl | rfl | rfl | rfl | rfl | rfl | rfl | rfl | rfl
  · exact h0
  · exact h1
  · exact h2
  · exact h3
  · exact h4
  · exact h5
  · exact h6
  · exact h7
  · exact h8
  · exact h9
  · exact h10
  · exact h11
  · exact h12
  · exact h13
  · exact h14
  · exact h15
  · exact h16
  · exact h17
  · exact h18
  · exact h19
  · exact h20
  · exact h21
  · exact h22
  · exact h23
theorem a0 {K : Frag} {mg : Str → Option Value} {h : Heap} (X : K.In h) (G : h.Ns mainGlobals mg) {f : Addr} {oc : Value} {od an : Option Addr} {osl : Array (Option Value)} {kV doc pm cdv ct : Value}
    (a : PySem.W.nsIn K mainGlobals "last_factor" = some (some (.ref f))) (l : K.lookup f = some ⟨oc, od, .func (PySem.W.fnOf "last_factor" "last_factor" (defArgs s0) (defBody s0) (defScope s0) .none kV doc pm an cdv ct), osl⟩)
    (c : PySem.W.codeIn K cdv "last_factor" = true) (k : PySem.W.keepIn K (.ref f) = true) : ∃ f fd, DfAt K mg d0 f fd :=
  ⟨_, _, dfAt_mk (d := d0) X G a l c k (fun _ _ _ _ _ _ us hl => match us, hl with | [_], _ => rfl) (fun q hq => nomatch hq)⟩
theorem a1 {K : Frag} {mg : Str → Option Value} {h : Heap} (X : K.In h) (G : h.Ns mainGlobals mg) {f : Addr} {oc : Value} {od an : Option Addr} {osl : Array (Option Value)} {kV doc pm cdv ct : Value}
    (a : PySem.W.nsIn K mainGlobals "joins_with_ends" = some (some (.ref f))) (l : K.lookup f = some ⟨oc, od, .func (PySem.W.fnOf "joins_with_ends" "joins_with_ends" (defArgs s1) (defBody s1) (defScope s1) .none kV doc pm an cdv ct), osl⟩)
    (c : PySem.W.codeIn K cdv "joins_with_ends" = true) (k : PySem.W.keepIn K (.ref f) = true) : ∃ f fd, DfAt K mg d1 f fd :=
  ⟨_, _, dfAt_mk (d := d1) X G a l c k (fun _ _ _ _ _ _ us hl => match us, hl with | [_], _ => rfl) (fun q hq => nomatch hq)⟩
theorem a2 {K : Frag} {mg : Str → Option Value} {h : Heap} (X : K.In h) (G : h.Ns mainGlobals mg) {f : Addr} {oc : Value} {od an : Option Addr} {osl : Array (Option Value)} {kV doc pm cdv ct : Value}
    (a : PySem.W.nsIn K mainGlobals "reaches" = some (some (.ref f))) (l : K.lookup f = some ⟨oc, od, .func (PySem.W.fnOf "reaches" "reaches" (defArgs s2) (defBody s2) (defScope s2) .none kV doc pm an cdv ct), osl⟩)
    (c : PySem.W.codeIn K cdv "reaches" = true) (k : PySem.W.keepIn K (.ref f) = true) : ∃ f fd, DfAt K mg d2 f fd :=
  ⟨_, _, dfAt_mk (d := d2) X G a l c k (fun _ _ _ _ _ _ us hl => match us, hl with | [_], _ => rfl) (fun q hq kV doc pm an cdv ct us ws h1 h2 => by
    rcases (by simpa [d2] using hq : q = ((0, ["grouping"], [0]) : Nat × List Str × List Nat)) with rfl
    · exact match us, ws, h1, h2 with | [], [_], _, _ => ⟨_, rfl, rfl⟩
)⟩
theorem a3 {K : Frag} {mg : Str → Option Value} {h : Heap} (X : K.In h) (G : h.Ns mainGlobals mg) {f : Addr} {oc : Value} {od an : Option Addr} {osl : Array (Option Value)} {kV doc pm cdv ct : Value}
    (a : PySem.W.nsIn K mainGlobals "starts" = some (some (.ref f))) (l : K.lookup f = some ⟨oc, od, .func (PySem.W.fnOf "starts" "starts" (defArgs s3) (defBody s3) (defScope s3) .none kV doc pm an cdv ct), osl⟩)
    (c : PySem.W.codeIn K cdv "starts" = true) (k : PySem.W.keepIn K (.ref f) = true) : ∃ f fd, DfAt K mg d3 f fd :=
  ⟨_, _, dfAt_mk (d := d3) X G a l c k (fun _ _ _ _ _ _ us hl => match us, hl with | [_], _ => rfl) (fun q hq kV doc pm an cdv ct us ws h1 h2 => by
    rcases (by simpa [d3] using hq : q = ((0, ["grouping"], [0]) : Nat × List Str × List Nat)) with rfl
    · exact match us, ws, h1, h2 with | [], [_], _, _ => ⟨_, rfl, rfl⟩
)⟩
theorem a4 {K : Frag} {mg : Str → Option Value} {h : Heap} (X : K.In h) (G : h.Ns mainGlobals mg) {f : Addr} {oc : Value} {od an : Option Addr} {osl : Array (Option Value)} {kV doc pm cdv ct : Value}
    (a : PySem.W.nsIn K mainGlobals "seen_from_behind" = some (some (.ref f))) (l : K.lookup f = some ⟨oc, od, .func (PySem.W.fnOf "seen_from_behind" "seen_from_behind" (defArgs s4) (defBody s4) (defScope s4) .none kV doc pm an cdv ct), osl⟩)
    (c : PySem.W.codeIn K cdv "seen_from_behind" = true) (k : PySem.W.keepIn K (.ref f) = true) : ∃ f fd, DfAt K mg d4 f fd :=
  ⟨_, _, dfAt_mk (d := d4) X G a l c k (fun _ _ _ _ _ _ us hl => match us, hl with | [_], _ => rfl) (fun q hq => nomatch hq)⟩
theorem a5 {K : Frag} {mg : Str → Option Value} {h : Heap} (X : K.In h) (G : h.Ns mainGlobals mg) {f : Addr} {oc : Value} {od an : Option Addr} {osl : Array (Option Value)} {kV doc pm cdv ct : Value}
    (a : PySem.W.nsIn K mainGlobals "of_reaches" = some (some (.ref f))) (l : K.lookup f = some ⟨oc, od, .func (PySem.W.fnOf "of_reaches" "of_reaches" (defArgs s5) (defBody s5) (defScope s5) .none kV doc pm an cdv ct), osl⟩)
    (c : PySem.W.codeIn K cdv "of_reaches" = true) (k : PySem.W.keepIn K (.ref f) = true) : ∃ f fd, DfAt K mg d5 f fd :=
  ⟨_, _, dfAt_mk (d := d5) X G a l c k (fun _ _ _ _ _ _ us hl => match us, hl with | [_], _ => rfl) (fun q hq kV doc pm an cdv ct us ws h1 h2 => by
    rcases (by simpa [d5] using hq : q = ((0, ["rows"], [0]) : Nat × List Str × List Nat)) with rfl
    · exact match us, ws, h1, h2 with | [], [_], _, _ => ⟨_, rfl, rfl⟩
)⟩
theorem a6 {K : Frag} {mg : Str → Option Value} {h : Heap} (X : K.In h) (G : h.Ns mainGlobals mg) {f : Addr} {oc : Value} {od an : Option Addr} {osl : Array (Option Value)} {kV doc pm cdv ct : Value}
    (a : PySem.W.nsIn K mainGlobals "of_starts" = some (some (.ref f))) (l : K.lookup f = some ⟨oc, od, .func (PySem.W.fnOf "of_starts" "of_starts" (defArgs s6) (defBody s6) (defScope s6) .none kV doc pm an cdv ct), osl⟩)
    (c : PySem.W.codeIn K cdv "of_starts" = true) (k : PySem.W.keepIn K (.ref f) = true) : ∃ f fd, DfAt K mg d6 f fd :=
  ⟨_, _, dfAt_mk (d := d6) X G a l c k (fun _ _ _ _ _ _ us hl => match us, hl with | [_], _ => rfl) (fun q hq kV doc pm an cdv ct us ws h1 h2 => by
    rcases (by simpa [d6] using hq : q = ((0, ["rows"], [0]) : Nat × List Str × List Nat)) with rfl
    · exact match us, ws, h1, h2 with | [], [_], _, _ => ⟨_, rfl, rfl⟩
)⟩
theorem a7 {K : Frag} {mg : Str → Option Value} {h : Heap} (X : K.In h) (G : h.Ns mainGlobals mg) {f : Addr} {oc : Value} {od an : Option Addr} {osl : Array (Option Value)} {kV doc pm cdv ct : Value}
    (a : PySem.W.nsIn K mainGlobals "brackets" = some (some (.ref f))) (l : K.lookup f = some ⟨oc, od, .func (PySem.W.fnOf "brackets" "brackets" (defArgs s7) (defBody s7) (defScope s7) .none kV doc pm an cdv ct), osl⟩)
    (c : PySem.W.codeIn K cdv "brackets" = true) (k : PySem.W.keepIn K (.ref f) = true) : ∃ f fd, DfAt K mg d7 f fd :=
  ⟨_, _, dfAt_mk (d := d7) X G a l c k (fun _ _ _ _ _ _ us hl => match us, hl with | [_], _ => rfl) (fun q hq kV doc pm an cdv ct us ws h1 h2 => by
    rcases (by simpa [d7] using hq : q = ((0, ["grouping"], [0]) : Nat × List Str × List Nat)) with rfl
    · exact match us, ws, h1, h2 with | [], [_], _, _ => ⟨_, rfl, rfl⟩
)⟩
theorem a8 {K : Frag} {mg : Str → Option Value} {h : Heap} (X : K.In h) (G : h.Ns mainGlobals mg) {f : Addr} {oc : Value} {od an : Option Addr} {osl : Array (Option Value)} {kV doc pm cdv ct : Value}
    (a : PySem.W.nsIn K mainGlobals "from_left" = some (some (.ref f))) (l : K.lookup f = some ⟨oc, od, .func (PySem.W.fnOf "from_left" "from_left" (defArgs s8) (defBody s8) (defScope s8) .none kV doc pm an cdv ct), osl⟩)
    (c : PySem.W.codeIn K cdv "from_left" = true) (k : PySem.W.keepIn K (.ref f) = true) : ∃ f fd, DfAt K mg d8 f fd :=
  ⟨_, _, dfAt_mk (d := d8) X G a l c k (fun _ _ _ _ _ _ us hl => match us, hl with | [_], _ => rfl) (fun q hq kV doc pm an cdv ct us ws h1 h2 => by
    rcases (by simpa [d8] using hq : q = ((0, ["factors"], [0]) : Nat × List Str × List Nat)) with rfl
    · exact match us, ws, h1, h2 with | [], [_], _, _ => ⟨_, rfl, rfl⟩
)⟩
theorem a9 {K : Frag} {mg : Str → Option Value} {h : Heap} (X : K.In h) (G : h.Ns mainGlobals mg) {f : Addr} {oc : Value} {od an : Option Addr} {osl : Array (Option Value)} {kV doc pm cdv ct : Value}
    (a : PySem.W.nsIn K mainGlobals "from_right" = some (some (.ref f))) (l : K.lookup f = some ⟨oc, od, .func (PySem.W.fnOf "from_right" "from_right" (defArgs s9) (defBody s9) (defScope s9) .none kV doc pm an cdv ct), osl⟩)
    (c : PySem.W.codeIn K cdv "from_right" = true) (k : PySem.W.keepIn K (.ref f) = true) : ∃ f fd, DfAt K mg d9 f fd :=
  ⟨_, _, dfAt_mk (d := d9) X G a l c k (fun _ _ _ _ _ _ us hl => match us, hl with | [_], _ => rfl) (fun q hq kV doc pm an cdv ct us ws h1 h2 => by
    rcases (by simpa [d9] using hq : q = ((0, ["factors"], [0]) : Nat × List Str × List Nat)) with rfl
    · exact match us, ws, h1, h2 with | [], [_], _, _ => ⟨_, rfl, rfl⟩
)⟩
theorem a10 {K : Frag} {mg : Str → Option Value} {h : Heap} (X : K.In h) (G : h.Ns mainGlobals mg) {f : Addr} {oc : Value} {od an : Option Addr} {osl : Array (Option Value)} {kV doc pm cdv ct : Value}
    (a : PySem.W.nsIn K mainGlobals "mirrored" = some (some (.ref f))) (l : K.lookup f = some ⟨oc, od, .func (PySem.W.fnOf "mirrored" "mirrored" (defArgs s10) (defBody s10) (defScope s10) .none kV doc pm an cdv ct), osl⟩)
    (c : PySem.W.codeIn K cdv "mirrored" = true) (k : PySem.W.keepIn K (.ref f) = true) : ∃ f fd, DfAt K mg d10 f fd :=
  ⟨_, _, dfAt_mk (d := d10) X G a l c k (fun _ _ _ _ _ _ us hl => match us, hl with | [_], _ => rfl) (fun q hq => nomatch hq)⟩
theorem a11 {K : Frag} {mg : Str → Option Value} {h : Heap} (X : K.In h) (G : h.Ns mainGlobals mg) {f : Addr} {oc : Value} {od an : Option Addr} {osl : Array (Option Value)} {kV doc pm cdv ct : Value}
    (a : PySem.W.nsIn K mainGlobals "_law_box" = some (some (.ref f))) (l : K.lookup f = some ⟨oc, od, .func (PySem.W.fnOf "_law_box" "_law_box" (defArgs s11) (defBody s11) (defScope s11) .none kV doc pm an cdv ct), osl⟩)
    (c : PySem.W.codeIn K cdv "_law_box" = true) (k : PySem.W.keepIn K (.ref f) = true) : ∃ f fd, DfAt K mg d11 f fd :=
  ⟨_, _, dfAt_mk (d := d11) X G a l c k (fun _ _ _ _ _ _ us hl => match us, hl with | [_, _], _ => rfl) (fun q hq => nomatch hq)⟩
theorem a12 {K : Frag} {mg : Str → Option Value} {h : Heap} (X : K.In h) (G : h.Ns mainGlobals mg) {f : Addr} {oc : Value} {od an : Option Addr} {osl : Array (Option Value)} {kV doc pm cdv ct : Value}
    (a : PySem.W.nsIn K mainGlobals "_law_take" = some (some (.ref f))) (l : K.lookup f = some ⟨oc, od, .func (PySem.W.fnOf "_law_take" "_law_take" (defArgs s12) (defBody s12) (defScope s12) .none kV doc pm an cdv ct), osl⟩)
    (c : PySem.W.codeIn K cdv "_law_take" = true) (k : PySem.W.keepIn K (.ref f) = true) : ∃ f fd, DfAt K mg d12 f fd :=
  ⟨_, _, dfAt_mk (d := d12) X G a l c k (fun _ _ _ _ _ _ us hl => match us, hl with | [_, _], _ => rfl) (fun q hq => nomatch hq)⟩
theorem a13 {K : Frag} {mg : Str → Option Value} {h : Heap} (X : K.In h) (G : h.Ns mainGlobals mg) {f : Addr} {oc : Value} {od an : Option Addr} {osl : Array (Option Value)} {kV doc pm cdv ct : Value}
    (a : PySem.W.nsIn K mainGlobals "_law_cells" = some (some (.ref f))) (l : K.lookup f = some ⟨oc, od, .func (PySem.W.fnOf "_law_cells" "_law_cells" (defArgs s13) (defBody s13) (defScope s13) .none kV doc pm an cdv ct), osl⟩)
    (c : PySem.W.codeIn K cdv "_law_cells" = true) (k : PySem.W.keepIn K (.ref f) = true) : ∃ f fd, DfAt K mg d13 f fd :=
  ⟨_, _, dfAt_mk (d := d13) X G a l c k (fun _ _ _ _ _ _ us hl => match us, hl with | [_, _], _ => rfl) (fun q hq => nomatch hq)⟩
theorem a14 {K : Frag} {mg : Str → Option Value} {h : Heap} (X : K.In h) (G : h.Ns mainGlobals mg) {f : Addr} {oc : Value} {od an : Option Addr} {osl : Array (Option Value)} {kV doc pm cdv ct : Value}
    (a : PySem.W.nsIn K mainGlobals "_law_same" = some (some (.ref f))) (l : K.lookup f = some ⟨oc, od, .func (PySem.W.fnOf "_law_same" "_law_same" (defArgs s14) (defBody s14) (defScope s14) .none kV doc pm an cdv ct), osl⟩)
    (c : PySem.W.codeIn K cdv "_law_same" = true) (k : PySem.W.keepIn K (.ref f) = true) : ∃ f fd, DfAt K mg d14 f fd :=
  ⟨_, _, dfAt_mk (d := d14) X G a l c k (fun _ _ _ _ _ _ us hl => match us, hl with | [_, _], _ => rfl) (fun q hq => nomatch hq)⟩
theorem a15 {K : Frag} {mg : Str → Option Value} {h : Heap} (X : K.In h) (G : h.Ns mainGlobals mg) {f : Addr} {oc : Value} {od an : Option Addr} {osl : Array (Option Value)} {kV doc pm cdv ct : Value}
    (a : PySem.W.nsIn K mainGlobals "_law_grouped" = some (some (.ref f))) (l : K.lookup f = some ⟨oc, od, .func (PySem.W.fnOf "_law_grouped" "_law_grouped" (defArgs s15) (defBody s15) (defScope s15) .none kV doc pm an cdv ct), osl⟩)
    (c : PySem.W.codeIn K cdv "_law_grouped" = true) (k : PySem.W.keepIn K (.ref f) = true) : ∃ f fd, DfAt K mg d15 f fd :=
  ⟨_, _, dfAt_mk (d := d15) X G a l c k (fun _ _ _ _ _ _ us hl => match us, hl with | [_, _, _], _ => rfl) (fun q hq => nomatch hq)⟩
theorem a16 {K : Frag} {mg : Str → Option Value} {h : Heap} (X : K.In h) (G : h.Ns mainGlobals mg) {f : Addr} {oc : Value} {od an : Option Addr} {osl : Array (Option Value)} {kV doc pm cdv ct : Value}
    (a : PySem.W.nsIn K mainGlobals "_law_ends" = some (some (.ref f))) (l : K.lookup f = some ⟨oc, od, .func (PySem.W.fnOf "_law_ends" "_law_ends" (defArgs s16) (defBody s16) (defScope s16) .none kV doc pm an cdv ct), osl⟩)
    (c : PySem.W.codeIn K cdv "_law_ends" = true) (k : PySem.W.keepIn K (.ref f) = true) : ∃ f fd, DfAt K mg d16 f fd :=
  ⟨_, _, dfAt_mk (d := d16) X G a l c k (fun _ _ _ _ _ _ us hl => match us, hl with | [_], _ => rfl) (fun q hq => nomatch hq)⟩
theorem a17 {K : Frag} {mg : Str → Option Value} {h : Heap} (X : K.In h) (G : h.Ns mainGlobals mg) {f : Addr} {oc : Value} {od an : Option Addr} {osl : Array (Option Value)} {kV doc pm cdv ct : Value}
    (a : PySem.W.nsIn K mainGlobals "_law_pairs" = some (some (.ref f))) (l : K.lookup f = some ⟨oc, od, .func (PySem.W.fnOf "_law_pairs" "_law_pairs" (defArgs s17) (defBody s17) (defScope s17) .none kV doc pm an cdv ct), osl⟩)
    (c : PySem.W.codeIn K cdv "_law_pairs" = true) (k : PySem.W.keepIn K (.ref f) = true) : ∃ f fd, DfAt K mg d17 f fd :=
  ⟨_, _, dfAt_mk (d := d17) X G a l c k (fun _ _ _ _ _ _ us hl => match us, hl with | [_], _ => rfl) (fun q hq => nomatch hq)⟩
theorem a18 {K : Frag} {mg : Str → Option Value} {h : Heap} (X : K.In h) (G : h.Ns mainGlobals mg) {f : Addr} {oc : Value} {od an : Option Addr} {osl : Array (Option Value)} {kV doc pm cdv ct : Value}
    (a : PySem.W.nsIn K mainGlobals "_law_arms" = some (some (.ref f))) (l : K.lookup f = some ⟨oc, od, .func (PySem.W.fnOf "_law_arms" "_law_arms" (defArgs s18) (defBody s18) (defScope s18) .none kV doc pm an cdv ct), osl⟩)
    (c : PySem.W.codeIn K cdv "_law_arms" = true) (k : PySem.W.keepIn K (.ref f) = true) : ∃ f fd, DfAt K mg d18 f fd :=
  ⟨_, _, dfAt_mk (d := d18) X G a l c k (fun _ _ _ _ _ _ us hl => match us, hl with | [_], _ => rfl) (fun q hq => nomatch hq)⟩
theorem a19 {K : Frag} {mg : Str → Option Value} {h : Heap} (X : K.In h) (G : h.Ns mainGlobals mg) {f : Addr} {oc : Value} {od an : Option Addr} {osl : Array (Option Value)} {kV doc pm cdv ct : Value}
    (a : PySem.W.nsIn K mainGlobals "_law_tails" = some (some (.ref f))) (l : K.lookup f = some ⟨oc, od, .func (PySem.W.fnOf "_law_tails" "_law_tails" (defArgs s19) (defBody s19) (defScope s19) .none kV doc pm an cdv ct), osl⟩)
    (c : PySem.W.codeIn K cdv "_law_tails" = true) (k : PySem.W.keepIn K (.ref f) = true) : ∃ f fd, DfAt K mg d19 f fd :=
  ⟨_, _, dfAt_mk (d := d19) X G a l c k (fun _ _ _ _ _ _ us hl => match us, hl with | [_], _ => rfl) (fun q hq => nomatch hq)⟩
theorem a20 {K : Frag} {mg : Str → Option Value} {h : Heap} (X : K.In h) (G : h.Ns mainGlobals mg) {f : Addr} {oc : Value} {od an : Option Addr} {osl : Array (Option Value)} {kV doc pm cdv ct : Value}
    (a : PySem.W.nsIn K mainGlobals "_law_soft" = some (some (.ref f))) (l : K.lookup f = some ⟨oc, od, .func (PySem.W.fnOf "_law_soft" "_law_soft" (defArgs s20) (defBody s20) (defScope s20) .none kV doc pm an cdv ct), osl⟩)
    (c : PySem.W.codeIn K cdv "_law_soft" = true) (k : PySem.W.keepIn K (.ref f) = true) : ∃ f fd, DfAt K mg d20 f fd :=
  ⟨_, _, dfAt_mk (d := d20) X G a l c k (fun _ _ _ _ _ _ us hl => match us, hl with | [_], _ => rfl) (fun q hq => nomatch hq)⟩
theorem a21 {K : Frag} {mg : Str → Option Value} {h : Heap} (X : K.In h) (G : h.Ns mainGlobals mg) {f : Addr} {oc : Value} {od an : Option Addr} {osl : Array (Option Value)} {kV doc pm cdv ct : Value}
    (a : PySem.W.nsIn K mainGlobals "_law_by_hand_right" = some (some (.ref f))) (l : K.lookup f = some ⟨oc, od, .func (PySem.W.fnOf "_law_by_hand_right" "_law_by_hand_right" (defArgs s21) (defBody s21) (defScope s21) .none kV doc pm an cdv ct), osl⟩)
    (c : PySem.W.codeIn K cdv "_law_by_hand_right" = true) (k : PySem.W.keepIn K (.ref f) = true) : ∃ f fd, DfAt K mg d21 f fd :=
  ⟨_, _, dfAt_mk (d := d21) X G a l c k (fun _ _ _ _ _ _ us hl => match us, hl with | [], _ => rfl) (fun q hq => nomatch hq)⟩
theorem a22 {K : Frag} {mg : Str → Option Value} {h : Heap} (X : K.In h) (G : h.Ns mainGlobals mg) {f : Addr} {oc : Value} {od an : Option Addr} {osl : Array (Option Value)} {kV doc pm cdv ct : Value}
    (a : PySem.W.nsIn K mainGlobals "_law_right" = some (some (.ref f))) (l : K.lookup f = some ⟨oc, od, .func (PySem.W.fnOf "_law_right" "_law_right" (defArgs s22) (defBody s22) (defScope s22) .none kV doc pm an cdv ct), osl⟩)
    (c : PySem.W.codeIn K cdv "_law_right" = true) (k : PySem.W.keepIn K (.ref f) = true) : ∃ f fd, DfAt K mg d22 f fd :=
  ⟨_, _, dfAt_mk (d := d22) X G a l c k (fun _ _ _ _ _ _ us hl => match us, hl with | [_], _ => rfl) (fun q hq => nomatch hq)⟩
theorem a23 {K : Frag} {mg : Str → Option Value} {h : Heap} (X : K.In h) (G : h.Ns mainGlobals mg) {f : Addr} {oc : Value} {od an : Option Addr} {osl : Array (Option Value)} {kV doc pm cdv ct : Value}
    (a : PySem.W.nsIn K mainGlobals "law" = some (some (.ref f))) (l : K.lookup f = some ⟨oc, od, .func (PySem.W.fnOf "law" "law" (defArgs s23) (defBody s23) (defScope s23) .none kV doc pm an cdv ct), osl⟩)
    (c : PySem.W.codeIn K cdv "law" = true) (k : PySem.W.keepIn K (.ref f) = true) : ∃ f fd, DfAt K mg d23 f fd :=
  ⟨_, _, dfAt_mk (d := d23) X G a l c k (fun _ _ _ _ _ _ us hl => match us, hl with | [_], _ => rfl) (fun q hq => nomatch hq)⟩
theorem all_in {P : Df → Prop} (q0 : P d0) (q1 : P d1) (q2 : P d2) (q3 : P d3) (q4 : P d4) (q5 : P d5) (q6 : P d6) (q7 : P d7) (q8 : P d8) (q9 : P d9) (q10 : P d10) (q11 : P d11) (q12 : P d12) (q13 : P d13) (q14 : P d14) (q15 : P d15) (q16 : P d16) (q17 : P d17) (q18 : P d18) (q19 : P d19) (q20 : P d20) (q21 : P d21) (q22 : P d22) (q23 : P d23) : ∀ e ∈ ds, P e := by
  intro d hd
  unfold ds at hd
  simp only [List.mem_cons, List.not_mem_nil, or_false] at hd
  rcases hd with rfl | rfl | rfl | rfl | rfl | rfl | rfl | rfl | rfl | rfl | rfl | rfl | rfl | rfl | rfl | rfl | rfl | rfl | rfl | rfl | rfl | rfl | rfl | rfl
  · exact q0
  · exact q1
  · exact q2
  · exact q3
  · exact q4
  · exact q5
  · exact q6
  · exact q7
  · exact q8
  · exact q9
  · exact q10
  · exact q11
  · exact q12
  · exact q13
  · exact q14
  · exact q15
  · exact q16
  · exact q17
  · exact q18
  · exact q19
  · exact q20
  · exact q21
  · exact q22
  · exact q23
theorem bl_in {mg : Str → Option Value} (z0 : mg "isinstance" = none) (z1 : mg "int" = none) (z2 : mg "sorted" = none) (z3 : mg "tuple" = none) (z4 : mg "len" = none) (z5 : mg "enumerate" = none) (z6 : mg "range" = none) (z7 : mg "abs" = none) (z8 : mg "list" = none) (z9 : mg "all" = none) (z10 : mg "zip" = none) (z11 : mg "bool" = none) (z12 : mg "str" = none) : ∀ e ∈ ds, ∀ y, e.bl.contains y = true → mg y = none := by
  have hb : ds.all (fun d => d.bl.all fun x => (["isinstance", "int", "sorted", "tuple", "len", "enumerate", "range", "abs", "list", "all", "zip", "bool", "str"] : List Str).contains x) = true := by decide +kernel
  intro e he y hy
  have q := List.all_eq_true.mp (List.all_eq_true.mp hb e he) y (by simpa using hy)
  simp only [List.contains_cons, List.contains_nil, Bool.or_false, Bool.or_eq_true, beq_iff_eq] at q
  rcases q with rfl | rfl | rfl | rfl | rfl | rfl | rfl | rfl | rfl | rfl | rfl | rfl | rfl
  · exact z0
  · exact z1
  · exact z2
  · exact z3
  · exact z4
  · exact z5
  · exact z6
  · exact z7
  · exact z8
  · exact z9
  · exact z10
  · exact z11
  · exact z12
theorem exs_in {K : Frag} {mg : Str → Option Value} {h : Heap} (X : K.In h) (G : h.Ns mainGlobals mg) : Exs K mg tb := by
  exact ⟨fun _ _ _ h => (by cases h), fun _ _ _ _ h => (by cases h)⟩
end L3.X

/-! N2: brackets, the grouping of a row of starts. -/
namespace L3
open PySem L2
theorem sorted_any {F : List (List Int)} {n : Nat} (hF : ∀ a ∈ F, a.length = n ∧ TS.Bd SB a) (hn : 1 ≤ n) (hl : F.length < 64) : gSorted [.lst (F.map tupI)] = some ⟨.lst ((tsort F).map tupI), true⟩ := by
  cases F with
  | nil => rfl
  | cons m F =>
    have e1 : lsInts (.lst ((m :: F).map tupI)) = none := rfl
    have e2 : (D.lst ((m :: F).map tupI)).ls.bind tints = some (m :: F) := tints_map (m :: F)
    have ok : okDims (m :: F) = true := by
      unfold okDims
      have q0 := hF m List.mem_cons_self
      simp only [Bool.and_eq_true, List.all_eq_true, decide_eq_true_eq]
      exact ⟨Nat.ble_eq_true_of_le (by omega), fun a ha => ⟨by rw [(hF a ha).1, q0.1], fun i hi => (hF a ha).2 i hi⟩⟩
    have lt : Nat.blt (m :: F).length 64 = true := Nat.ble_eq_true_of_le hl
    unfold gSorted
    simp only [e1, e2, ok, lt, Bool.and_true]
    rfl
/-- the brackets of a grouping, join by join -/
def Tr.sp (t : Tr) : List (List Int) := t.joins.map fun p => [p.1, p.2.2]
theorem Grp.sp {t : Tr} {N : Int} (h : Grp 1 N t) (hN : N ≤ 60) : (∀ a ∈ t.sp, a.length = 2 ∧ TS.Bd SB a) ∧ t.sp.length < 64 := by
  obtain ⟨c, p, l, _⟩ := h.cuts
  refine ⟨fun a ha => ?_, by simp only [Tr.sp, List.length_map]; omega⟩
  obtain ⟨q, hq, rfl⟩ := List.mem_map.mp ha
  have := c q hq
  refine ⟨rfl, fun m hm => ?_⟩
  have sb : SB = 1048576 := rfl
  simp only [List.mem_cons, List.not_mem_nil, or_false] at hm
  rw [sb]
  rcases hm with rfl | rfl <;> omega
/-- the set of the brackets -/
def Tr.brs (t : Tr) : D := .tup ((tsort t.sp).map tupI)
def BrkOk (fe : Ev R) : Prop := ∀ (d : D) (t : Tr) (N : Int), IsTr d t → Grp 1 N t → N ≤ 60 → fe [.v d] = some (.ok ⟨t.brs, false⟩ [.v d])
def tBrk (joins : Ev R) : EvS := sRet (evPr gTuple [.e (evPr gSorted [.e (evComp (evSeq (.e (evCall joins [.e (evSl 0)]))) (asgTup 3 (asgCons (asgSl 2) (asgCons (asgSl 3) (asgCons (asgSl 4) asgNil)))) evYes (evPr gTup [.e (evSl 3), .e (evSl 4)]) [1, 2, 3, 4])])])
theorem brk_ok {joins : Ev R} (J : JoinsOk joins) : BrkOk (defEv 1 4 (tBrk joins)) := by
  intro d t N h g hN
  have e0 := J d t N h g hN
  have hl : t.joins.length ≤ LIM := by
    have := (g.jo hN).2.2
    simp only [Tr.jo, List.length_map] at this
    exact Nat.le_trans (Nat.le_of_lt this) (by decide)
  obtain ⟨s1, s2⟩ := g.sp hN
  have es := sorted_any s1 (by decide) s2
  unfold tBrk
  simp (config := { decide := false }) only [k1_ok, k1_ex, k1_no, ret_r, asF_r, asE_r, asI_r, asL_t, as_nil, as_e, as_l, isSet_r, isSet_v, isSet_o, fdR_s, fd_nil, fd_r, fd_l, fdL_v, fdL_o, prC_s, prB_s, prA_r, pr_r, gd_t, sl_r, slK_v, slK_o, k_r, tb_r, tbA_r, tC_s, tB_s, tA_r, t_r, noA_r, not_r, anA_t, anA_f, and_r, orA_t, orA_f, or_r, ifA_t, ifA_f, if_r, anV_t, anV_f, anU_r, andV_r, orV_t, orV_f, orU_r, orV_r, ntV_s, ntU_r, notV_r, tru_b, tru_i, tru_n, tru_t, tru_l, tru_f, free_r, free_u, free_v, free_o, asgK_t, asg_r, asgM_f, asgM_l, asgM_t, acK_s, ac_r, an_r, atL_t, atK_s, at_r, sq_t, sq_l, sq_f, nxK_s, setK_ok, setK_ex, set_r, seq_r, seqK_nx, seqK_rt, seqK_ro, seqK_bk, seqK_ct, seqK_ex, ifs_r, ifK_t, ifK_f, nx_r, bk_r, ct_r, rets_r, retK_ok, retK_ex, rs_r, rsK_v, rsK_o, retN_r, expr_r, exK_ok, exK_ex, crK_s, crL_ok, crL_ex, cr_r, nod_n, nod_1, call_r, ckA_r, callK_r, agR_s, ag_nil, ag_r, ag_l, agL_v, agL_o, ol_nil, ol_r, ol_l, olK_v, olK_o, bk_nil, bkr, bkl, bkK_v, bkK_o, si_r, siA_ok, siA_ex, siE_t, siB_ok, siC_s, siD_s, isOwn_r, isOwn_o, dfA_t, df_r, dfB_nx, dfB_rt, dfB_ex, ba_v, ba_o, ba_n, nm_n, nm_v, nm_o, p_add, p_sub, p_mul, p_mod, p_fdiv, p_neg, p_int, p_intB, p_cmp, p_ixL, p_ixT, p_ixF, p_lenL, p_lenT, p_lenF, p_listT, p_listL, p_tupleL, p_tupleT, List.getElem?_cons_zero, List.getElem?_cons_succ, List.getElem?_nil, List.set_cons_zero, List.set_cons_succ, List.length_cons, List.length_nil, Option.map_some, Option.map_none, List.cons_append, List.nil_append, List.append_nil, Bool.and_true, Bool.true_and, Bool.or_true, Bool.true_or, Bool.and_false, Bool.false_and, Bool.or_false, Bool.false_or, Bool.not_true, Bool.not_false, decide_true, decide_false, List.replicate, Nat.beq, Nat.reduceAdd]
  rw [comp_q (t.jo.map tupI) (fun d => match d with | .tup [_, a, b] => .tup [a, b] | d => d)]
  · have e : (t.jo.map tupI).map (fun d => match d with | .tup [_, a, b] => D.tup [a, b] | d => d) = t.sp.map tupI := by
      simp [Tr.jo, Tr.sp, tupI, Function.comp_def]
    rw [e]
    simp (config := { decide := false }) only [k1_ok, k1_ex, k1_no, ret_r, asF_r, asE_r, asI_r, asL_t, as_nil, as_e, as_l, isSet_r, isSet_v, isSet_o, fdR_s, fd_nil, fd_r, fd_l, fdL_v, fdL_o, prC_s, prB_s, prA_r, pr_r, gd_t, sl_r, slK_v, slK_o, k_r, tb_r, tbA_r, tC_s, tB_s, tA_r, t_r, noA_r, not_r, anA_t, anA_f, and_r, orA_t, orA_f, or_r, ifA_t, ifA_f, if_r, anV_t, anV_f, anU_r, andV_r, orV_t, orV_f, orU_r, orV_r, ntV_s, ntU_r, notV_r, tru_b, tru_i, tru_n, tru_t, tru_l, tru_f, free_r, free_u, free_v, free_o, asgK_t, asg_r, asgM_f, asgM_l, asgM_t, acK_s, ac_r, an_r, atL_t, atK_s, at_r, sq_t, sq_l, sq_f, nxK_s, setK_ok, setK_ex, set_r, seq_r, seqK_nx, seqK_rt, seqK_ro, seqK_bk, seqK_ct, seqK_ex, ifs_r, ifK_t, ifK_f, nx_r, bk_r, ct_r, rets_r, retK_ok, retK_ex, rs_r, rsK_v, rsK_o, retN_r, expr_r, exK_ok, exK_ex, crK_s, crL_ok, crL_ex, cr_r, nod_n, nod_1, call_r, ckA_r, callK_r, agR_s, ag_nil, ag_r, ag_l, agL_v, agL_o, ol_nil, ol_r, ol_l, olK_v, olK_o, bk_nil, bkr, bkl, bkK_v, bkK_o, si_r, siA_ok, siA_ex, siE_t, siB_ok, siC_s, siD_s, isOwn_r, isOwn_o, dfA_t, df_r, dfB_nx, dfB_rt, dfB_ex, ba_v, ba_o, ba_n, nm_n, nm_v, nm_o, p_add, p_sub, p_mul, p_mod, p_fdiv, p_neg, p_int, p_intB, p_cmp, p_ixL, p_ixT, p_ixF, p_lenL, p_lenT, p_lenF, p_listT, p_listL, p_tupleL, p_tupleT, List.getElem?_cons_zero, List.getElem?_cons_succ, List.getElem?_nil, List.set_cons_zero, List.set_cons_succ, List.length_cons, List.length_nil, Option.map_some, Option.map_none, List.cons_append, List.nil_append, List.append_nil, Bool.and_true, Bool.true_and, Bool.or_true, Bool.true_or, Bool.and_false, Bool.false_and, Bool.or_false, Bool.false_or, Bool.not_true, Bool.not_false, decide_true, decide_false, es]
    rfl
  · exact seq_e (r := ⟨.lst (t.jo.map tupI), true⟩) (by simp (config := { decide := false }) only [k1_ok, k1_ex, k1_no, ret_r, asF_r, asE_r, asI_r, asL_t, as_nil, as_e, as_l, isSet_r, isSet_v, isSet_o, fdR_s, fd_nil, fd_r, fd_l, fdL_v, fdL_o, prC_s, prB_s, prA_r, pr_r, gd_t, sl_r, slK_v, slK_o, k_r, tb_r, tbA_r, tC_s, tB_s, tA_r, t_r, noA_r, not_r, anA_t, anA_f, and_r, orA_t, orA_f, or_r, ifA_t, ifA_f, if_r, anV_t, anV_f, anU_r, andV_r, orV_t, orV_f, orU_r, orV_r, ntV_s, ntU_r, notV_r, tru_b, tru_i, tru_n, tru_t, tru_l, tru_f, free_r, free_u, free_v, free_o, asgK_t, asg_r, asgM_f, asgM_l, asgM_t, acK_s, ac_r, an_r, atL_t, atK_s, at_r, sq_t, sq_l, sq_f, nxK_s, setK_ok, setK_ex, set_r, seq_r, seqK_nx, seqK_rt, seqK_ro, seqK_bk, seqK_ct, seqK_ex, ifs_r, ifK_t, ifK_f, nx_r, bk_r, ct_r, rets_r, retK_ok, retK_ex, rs_r, rsK_v, rsK_o, retN_r, expr_r, exK_ok, exK_ex, crK_s, crL_ok, crL_ex, cr_r, nod_n, nod_1, call_r, ckA_r, callK_r, agR_s, ag_nil, ag_r, ag_l, agL_v, agL_o, ol_nil, ol_r, ol_l, olK_v, olK_o, bk_nil, bkr, bkl, bkK_v, bkK_o, si_r, siA_ok, siA_ex, siE_t, siB_ok, siC_s, siD_s, isOwn_r, isOwn_o, dfA_t, df_r, dfB_nx, dfB_rt, dfB_ex, ba_v, ba_o, ba_n, nm_n, nm_v, nm_o, p_add, p_sub, p_mul, p_mod, p_fdiv, p_neg, p_int, p_intB, p_cmp, p_ixL, p_ixT, p_ixF, p_lenL, p_lenT, p_lenF, p_listT, p_listL, p_tupleL, p_tupleT, List.getElem?_cons_zero, List.getElem?_cons_succ, List.getElem?_nil, List.set_cons_zero, List.set_cons_succ, List.length_cons, List.length_nil, Option.map_some, Option.map_none, List.cons_append, List.nil_append, List.append_nil, Bool.and_true, Bool.true_and, Bool.or_true, Bool.true_or, Bool.and_false, Bool.false_and, Bool.or_false, Bool.false_or, Bool.not_true, Bool.not_false, decide_true, decide_false, e0]) rfl
  · rfl
  · simpa [Tr.jo] using hl
  · intro x hx
    obtain ⟨r, hr, rfl⟩ := List.mem_map.mp hx
    obtain ⟨p, hp, rfl⟩ := List.mem_map.mp hr
    have l2 : ([.int p.1, .int p.2.2] : List D).length ≤ LIM := by show 2 ≤ LIM; decide
    rw [item_r]
    simp (config := { decide := false }) only [k1_ok, k1_ex, k1_no, ret_r, asF_r, asE_r, asI_r, asL_t, as_nil, as_e, as_l, isSet_r, isSet_v, isSet_o, fdR_s, fd_nil, fd_r, fd_l, fdL_v, fdL_o, prC_s, prB_s, prA_r, pr_r, gd_t, sl_r, slK_v, slK_o, k_r, tb_r, tbA_r, tC_s, tB_s, tA_r, t_r, noA_r, not_r, anA_t, anA_f, and_r, orA_t, orA_f, or_r, ifA_t, ifA_f, if_r, anV_t, anV_f, anU_r, andV_r, orV_t, orV_f, orU_r, orV_r, ntV_s, ntU_r, notV_r, tru_b, tru_i, tru_n, tru_t, tru_l, tru_f, free_r, free_u, free_v, free_o, asgK_t, asg_r, asgM_f, asgM_l, asgM_t, acK_s, ac_r, an_r, atL_t, atK_s, at_r, sq_t, sq_l, sq_f, nxK_s, setK_ok, setK_ex, set_r, seq_r, seqK_nx, seqK_rt, seqK_ro, seqK_bk, seqK_ct, seqK_ex, ifs_r, ifK_t, ifK_f, nx_r, bk_r, ct_r, rets_r, retK_ok, retK_ex, rs_r, rsK_v, rsK_o, retN_r, expr_r, exK_ok, exK_ex, crK_s, crL_ok, crL_ex, cr_r, nod_n, nod_1, call_r, ckA_r, callK_r, agR_s, ag_nil, ag_r, ag_l, agL_v, agL_o, ol_nil, ol_r, ol_l, olK_v, olK_o, bk_nil, bkr, bkl, bkK_v, bkK_o, si_r, siA_ok, siA_ex, siE_t, siB_ok, siC_s, siD_s, isOwn_r, isOwn_o, dfA_t, df_r, dfB_nx, dfB_rt, dfB_ex, ba_v, ba_o, ba_n, nm_n, nm_v, nm_o, p_add, p_sub, p_mul, p_mod, p_fdiv, p_neg, p_int, p_intB, p_cmp, p_ixL, p_ixT, p_ixF, p_lenL, p_lenT, p_lenF, p_listT, p_listL, p_tupleL, p_tupleT, List.getElem?_cons_zero, List.getElem?_cons_succ, List.getElem?_nil, List.set_cons_zero, List.set_cons_succ, List.length_cons, List.length_nil, Option.map_some, Option.map_none, List.cons_append, List.nil_append, List.append_nil, Bool.and_true, Bool.true_and, Bool.or_true, Bool.true_or, Bool.and_false, Bool.false_and, Bool.or_false, Bool.false_or, Bool.not_true, Bool.not_false, decide_true, decide_false, tupI, List.map_cons, List.map_nil, wipeS, itA_s, yes_r, itB_t, p_tup l2, Nat.beq]
    exact itC_ok ⟨rfl, rfl⟩
/-- of_starts -/
def OfsOk (fe : Ev R) : Prop := ∀ (d : D) (t : Tr) (N : Int), IsRow d t.tails → Grp 1 N t → N ≤ 60 → fe [.v d] = some (.ok ⟨t.d, false⟩ [.v d])
def tOfs (mir of seen : Ev R) : EvS := sRet (evCall mir [.e (evCall of [.e (evCall seen [.e (evSl 0)])])])
theorem ofs_ok {mir of seen : Ev R} (M : MirOk mir) (O : OfOk of) (S : SeenOk seen) : OfsOk (defEv 1 0 (tOfs mir of seen)) := by
  intro d t N h g hN
  have gb := beh_whole g
  have hl := rows_len g
  have e1 := S d t.tails h (by omega)
  have ea : (t.tails.reverse.map fun x => (t.tails.length : Int) + 2 - x) = (t.beh N).arms := by
    rw [beh_arms g]
    have : (t.tails.length : Int) + 2 = N + 1 := by omega
    rw [this]
  rw [ea] at e1
  have e2 := O (.tup ((t.beh N).arms.map .int)) (t.beh N) N (.tup _) gb hN
  have e3 := M (t.beh N).d (t.beh N) N (isTr_d _) gb hN
  rw [beh_beh] at e3
  unfold tOfs
  simp (config := { decide := false }) only [k1_ok, k1_ex, k1_no, ret_r, asF_r, asE_r, asI_r, asL_t, as_nil, as_e, as_l, isSet_r, isSet_v, isSet_o, fdR_s, fd_nil, fd_r, fd_l, fdL_v, fdL_o, prC_s, prB_s, prA_r, pr_r, gd_t, sl_r, slK_v, slK_o, k_r, tb_r, tbA_r, tC_s, tB_s, tA_r, t_r, noA_r, not_r, anA_t, anA_f, and_r, orA_t, orA_f, or_r, ifA_t, ifA_f, if_r, anV_t, anV_f, anU_r, andV_r, orV_t, orV_f, orU_r, orV_r, ntV_s, ntU_r, notV_r, tru_b, tru_i, tru_n, tru_t, tru_l, tru_f, free_r, free_u, free_v, free_o, asgK_t, asg_r, asgM_f, asgM_l, asgM_t, acK_s, ac_r, an_r, atL_t, atK_s, at_r, sq_t, sq_l, sq_f, nxK_s, setK_ok, setK_ex, set_r, seq_r, seqK_nx, seqK_rt, seqK_ro, seqK_bk, seqK_ct, seqK_ex, ifs_r, ifK_t, ifK_f, nx_r, bk_r, ct_r, rets_r, retK_ok, retK_ex, rs_r, rsK_v, rsK_o, retN_r, expr_r, exK_ok, exK_ex, crK_s, crL_ok, crL_ex, cr_r, nod_n, nod_1, call_r, ckA_r, callK_r, agR_s, ag_nil, ag_r, ag_l, agL_v, agL_o, ol_nil, ol_r, ol_l, olK_v, olK_o, bk_nil, bkr, bkl, bkK_v, bkK_o, si_r, siA_ok, siA_ex, siE_t, siB_ok, siC_s, siD_s, isOwn_r, isOwn_o, dfA_t, df_r, dfB_nx, dfB_rt, dfB_ex, ba_v, ba_o, ba_n, nm_n, nm_v, nm_o, p_add, p_sub, p_mul, p_mod, p_fdiv, p_neg, p_int, p_intB, p_cmp, p_ixL, p_ixT, p_ixF, p_lenL, p_lenT, p_lenF, p_listT, p_listL, p_tupleL, p_tupleT, List.getElem?_cons_zero, List.getElem?_cons_succ, List.getElem?_nil, List.set_cons_zero, List.set_cons_succ, List.length_cons, List.length_nil, Option.map_some, Option.map_none, List.cons_append, List.nil_append, List.append_nil, Bool.and_true, Bool.true_and, Bool.or_true, Bool.true_or, Bool.and_false, Bool.false_and, Bool.or_false, Bool.false_or, Bool.not_true, Bool.not_false, decide_true, decide_false, List.replicate, Nat.beq, Nat.reduceAdd, e1, e2, e3]
end L3

set_option maxRecDepth 100000
namespace L3.X
open PySem L2 L3
theorem k_take (n : Nat) : TakeOk (evD ds (n + 1) 12) := take_ok (cal := evD ds n)
theorem k_grp : ∀ n : Nat, GroupedOk (evD ds (n + 1) 15) n
  | 0 => fun a b x y z c h1 h2 => by omega
  | n + 1 => grouped_ok (k_take n) (k_grp n)
theorem k_ends (n : Nat) : EndsOk (evD ds (n + 1) 16) := ends_ok
theorem k_pairs : ∀ n : Nat, PairsOk (evD ds (n + 1) 17) n
  | 0 => fun t h => by omega
  | n + 1 => pairs_ok (k_ends n) (k_pairs n)
theorem k_arms (n : Nat) : ∀ t : Tr, t.dep < n → t.dep < 1000 → t.joins.length ≤ 1000 → evD ds (n + 2) 18 [.v t.d] = some (.ok ⟨.tup (t.arms.map .int), false⟩ [.v t.d]) := fun t h h2 h3 => by
  have q := arms_ok (k_pairs n) (k := 2) (F := fun p => p.2.2) (fun p => at2) t h h2 h3
  rw [show t.arms.map D.int = t.joins.map fun p => D.int p.2.2 by simp [Tr.arms, Function.comp_def]]
  exact q
theorem k_tails (n : Nat) : ∀ t : Tr, t.dep < n → t.dep < 1000 → t.joins.length ≤ 1000 → evD ds (n + 2) 19 [.v t.d] = some (.ok ⟨.tup (t.tails.map .int), false⟩ [.v t.d]) := fun t h h2 h3 => by
  have q := arms_ok (k_pairs n) (k := 0) (F := fun p => p.1) (fun p => at0) t h h2 h3
  rw [show t.tails.map D.int = t.joins.map fun p => D.int p.1 by simp [Tr.tails, Function.comp_def]]
  exact q
theorem k_soft : ∀ n : Nat, SoftOk (evD ds (n + 1) 20) n
  | 0 => fun t h => by omega
  | n + 1 => soft_ok (k_soft n)
theorem k_same : ∀ n : Nat, SameOk (evD ds (n + 1) 14) n
  | 0 => fun d h => nomatch h
  | n + 1 => same_ok (k_same n)
theorem k_joins (n : Nat) : JoinsOk (evD ds (n + 2) 1) := joins_ok (last := evD ds (n + 1) 0) last_ok
theorem k_reach (n : Nat) : ArmsOk (evD ds (n + 3) 2) := reaches_ok (k_joins n)
theorem k_start (n : Nat) : TailsOk (evD ds (n + 3) 3) := starts_ok (k_joins n)
theorem k_seen (n : Nat) : SeenOk (evD ds (n + 1) 4) := seen_ok
theorem k_of (n : Nat) : OfOk (evD ds (n + 1) 5) := of_ok
theorem k_mir (n : Nat) : MirOk (evD ds (n + 4) 10) := mir_ok (k_of (n + 2)) (k_seen (n + 2)) (k_start n)
theorem k_ofs (n : Nat) : OfsOk (evD ds (n + 5) 6) := ofs_ok (k_mir n) (k_of (n + 3)) (k_seen (n + 3))
theorem k_brk (n : Nat) : BrkOk (evD ds (n + 3) 7) := brk_ok (k_joins n)
theorem k_box : BoxOk (evD ds 149 11) := box_ok (C := 86241) (by decide) (by decide)
theorem k_cells : CellsOk (evD ds 149 13) 3 := cells_ok (m := 3) (by decide) (by decide)
theorem hand : evD ds 149 21 [] = some (.ok ⟨.bl true, false⟩ []) := by kernel_rfl
end L3.X

/-! N3: the frame's other slots, one by one; plain things. -/
namespace L3
open PySem L2
theorem jk1 {J : Sls} (h : J.length = 1) (k : Jk J) : ∃ s1 : Slot, J = [s1] ∧ freeK (some s1) = true := by
  obtain ⟨s1, J, rfl, f1, h, k⟩ := jk_split h k
  obtain rfl := jk_0 h
  exact ⟨s1, rfl, f1⟩
theorem jk2 {J : Sls} (h : J.length = 2) (k : Jk J) : ∃ s1 s2 : Slot, J = [s1, s2] ∧ freeK (some s1) = true ∧ freeK (some s2) = true := by
  obtain ⟨s1, J, rfl, f1, h, k⟩ := jk_split h k
  obtain ⟨s2, J, rfl, f2, h, k⟩ := jk_split h k
  obtain rfl := jk_0 h
  exact ⟨s1, s2, rfl, f1, f2⟩
theorem jk3 {J : Sls} (h : J.length = 3) (k : Jk J) : ∃ s1 s2 s3 : Slot, J = [s1, s2, s3] ∧ freeK (some s1) = true ∧ freeK (some s2) = true ∧ freeK (some s3) = true := by
  obtain ⟨s1, J, rfl, f1, h, k⟩ := jk_split h k
  obtain ⟨s2, J, rfl, f2, h, k⟩ := jk_split h k
  obtain ⟨s3, J, rfl, f3, h, k⟩ := jk_split h k
  obtain rfl := jk_0 h
  exact ⟨s1, s2, s3, rfl, f1, f2, f3⟩
theorem jk4 {J : Sls} (h : J.length = 4) (k : Jk J) : ∃ s1 s2 s3 s4 : Slot, J = [s1, s2, s3, s4] ∧ freeK (some s1) = true ∧ freeK (some s2) = true ∧ freeK (some s3) = true ∧ freeK (some s4) = true := by
  obtain ⟨s1, J, rfl, f1, h, k⟩ := jk_split h k
  obtain ⟨s2, J, rfl, f2, h, k⟩ := jk_split h k
  obtain ⟨s3, J, rfl, f3, h, k⟩ := jk_split h k
  obtain ⟨s4, J, rfl, f4, h, k⟩ := jk_split h k
  obtain rfl := jk_0 h
  exact ⟨s1, s2, s3, s4, rfl, f1, f2, f3, f4⟩
theorem jk5 {J : Sls} (h : J.length = 5) (k : Jk J) : ∃ s1 s2 s3 s4 s5 : Slot, J = [s1, s2, s3, s4, s5] ∧ freeK (some s1) = true ∧ freeK (some s2) = true ∧ freeK (some s3) = true ∧ freeK (some s4) = true ∧ freeK (some s5) = true := by
  obtain ⟨s1, J, rfl, f1, h, k⟩ := jk_split h k
  obtain ⟨s2, J, rfl, f2, h, k⟩ := jk_split h k
  obtain ⟨s3, J, rfl, f3, h, k⟩ := jk_split h k
  obtain ⟨s4, J, rfl, f4, h, k⟩ := jk_split h k
  obtain ⟨s5, J, rfl, f5, h, k⟩ := jk_split h k
  obtain rfl := jk_0 h
  exact ⟨s1, s2, s3, s4, s5, rfl, f1, f2, f3, f4, f5⟩
theorem jk6 {J : Sls} (h : J.length = 6) (k : Jk J) : ∃ s1 s2 s3 s4 s5 s6 : Slot, J = [s1, s2, s3, s4, s5, s6] ∧ freeK (some s1) = true ∧ freeK (some s2) = true ∧ freeK (some s3) = true ∧ freeK (some s4) = true ∧ freeK (some s5) = true ∧ freeK (some s6) = true := by
  obtain ⟨s1, J, rfl, f1, h, k⟩ := jk_split h k
  obtain ⟨s2, J, rfl, f2, h, k⟩ := jk_split h k
  obtain ⟨s3, J, rfl, f3, h, k⟩ := jk_split h k
  obtain ⟨s4, J, rfl, f4, h, k⟩ := jk_split h k
  obtain ⟨s5, J, rfl, f5, h, k⟩ := jk_split h k
  obtain ⟨s6, J, rfl, f6, h, k⟩ := jk_split h k
  obtain rfl := jk_0 h
  exact ⟨s1, s2, s3, s4, s5, s6, rfl, f1, f2, f3, f4, f5, f6⟩
theorem jk7 {J : Sls} (h : J.length = 7) (k : Jk J) : ∃ s1 s2 s3 s4 s5 s6 s7 : Slot, J = [s1, s2, s3, s4, s5, s6, s7] ∧ freeK (some s1) = true ∧ freeK (some s2) = true ∧ freeK (some s3) = true ∧ freeK (some s4) = true ∧ freeK (some s5) = true ∧ freeK (some s6) = true ∧ freeK (some s7) = true := by
  obtain ⟨s1, J, rfl, f1, h, k⟩ := jk_split h k
  obtain ⟨s2, J, rfl, f2, h, k⟩ := jk_split h k
  obtain ⟨s3, J, rfl, f3, h, k⟩ := jk_split h k
  obtain ⟨s4, J, rfl, f4, h, k⟩ := jk_split h k
  obtain ⟨s5, J, rfl, f5, h, k⟩ := jk_split h k
  obtain ⟨s6, J, rfl, f6, h, k⟩ := jk_split h k
  obtain ⟨s7, J, rfl, f7, h, k⟩ := jk_split h k
  obtain rfl := jk_0 h
  exact ⟨s1, s2, s3, s4, s5, s6, s7, rfl, f1, f2, f3, f4, f5, f6, f7⟩
theorem jk8 {J : Sls} (h : J.length = 8) (k : Jk J) : ∃ s1 s2 s3 s4 s5 s6 s7 s8 : Slot, J = [s1, s2, s3, s4, s5, s6, s7, s8] ∧ freeK (some s1) = true ∧ freeK (some s2) = true ∧ freeK (some s3) = true ∧ freeK (some s4) = true ∧ freeK (some s5) = true ∧ freeK (some s6) = true ∧ freeK (some s7) = true ∧ freeK (some s8) = true := by
  obtain ⟨s1, J, rfl, f1, h, k⟩ := jk_split h k
  obtain ⟨s2, J, rfl, f2, h, k⟩ := jk_split h k
  obtain ⟨s3, J, rfl, f3, h, k⟩ := jk_split h k
  obtain ⟨s4, J, rfl, f4, h, k⟩ := jk_split h k
  obtain ⟨s5, J, rfl, f5, h, k⟩ := jk_split h k
  obtain ⟨s6, J, rfl, f6, h, k⟩ := jk_split h k
  obtain ⟨s7, J, rfl, f7, h, k⟩ := jk_split h k
  obtain ⟨s8, J, rfl, f8, h, k⟩ := jk_split h k
  obtain rfl := jk_0 h
  exact ⟨s1, s2, s3, s4, s5, s6, s7, s8, rfl, f1, f2, f3, f4, f5, f6, f7, f8⟩
theorem jk9 {J : Sls} (h : J.length = 9) (k : Jk J) : ∃ s1 s2 s3 s4 s5 s6 s7 s8 s9 : Slot, J = [s1, s2, s3, s4, s5, s6, s7, s8, s9] ∧ freeK (some s1) = true ∧ freeK (some s2) = true ∧ freeK (some s3) = true ∧ freeK (some s4) = true ∧ freeK (some s5) = true ∧ freeK (some s6) = true ∧ freeK (some s7) = true ∧ freeK (some s8) = true ∧ freeK (some s9) = true := by
  obtain ⟨s1, J, rfl, f1, h, k⟩ := jk_split h k
  obtain ⟨s2, J, rfl, f2, h, k⟩ := jk_split h k
  obtain ⟨s3, J, rfl, f3, h, k⟩ := jk_split h k
  obtain ⟨s4, J, rfl, f4, h, k⟩ := jk_split h k
  obtain ⟨s5, J, rfl, f5, h, k⟩ := jk_split h k
  obtain ⟨s6, J, rfl, f6, h, k⟩ := jk_split h k
  obtain ⟨s7, J, rfl, f7, h, k⟩ := jk_split h k
  obtain ⟨s8, J, rfl, f8, h, k⟩ := jk_split h k
  obtain ⟨s9, J, rfl, f9, h, k⟩ := jk_split h k
  obtain rfl := jk_0 h
  exact ⟨s1, s2, s3, s4, s5, s6, s7, s8, s9, rfl, f1, f2, f3, f4, f5, f6, f7, f8, f9⟩
theorem jk10 {J : Sls} (h : J.length = 10) (k : Jk J) : ∃ s1 s2 s3 s4 s5 s6 s7 s8 s9 s10 : Slot, J = [s1, s2, s3, s4, s5, s6, s7, s8, s9, s10] ∧ freeK (some s1) = true ∧ freeK (some s2) = true ∧ freeK (some s3) = true ∧ freeK (some s4) = true ∧ freeK (some s5) = true ∧ freeK (some s6) = true ∧ freeK (some s7) = true ∧ freeK (some s8) = true ∧ freeK (some s9) = true ∧ freeK (some s10) = true := by
  obtain ⟨s1, J, rfl, f1, h, k⟩ := jk_split h k
  obtain ⟨s2, J, rfl, f2, h, k⟩ := jk_split h k
  obtain ⟨s3, J, rfl, f3, h, k⟩ := jk_split h k
  obtain ⟨s4, J, rfl, f4, h, k⟩ := jk_split h k
  obtain ⟨s5, J, rfl, f5, h, k⟩ := jk_split h k
  obtain ⟨s6, J, rfl, f6, h, k⟩ := jk_split h k
  obtain ⟨s7, J, rfl, f7, h, k⟩ := jk_split h k
  obtain ⟨s8, J, rfl, f8, h, k⟩ := jk_split h k
  obtain ⟨s9, J, rfl, f9, h, k⟩ := jk_split h k
  obtain ⟨s10, J, rfl, f10, h, k⟩ := jk_split h k
  obtain rfl := jk_0 h
  exact ⟨s1, s2, s3, s4, s5, s6, s7, s8, s9, s10, rfl, f1, f2, f3, f4, f5, f6, f7, f8, f9, f10⟩
theorem jk11 {J : Sls} (h : J.length = 11) (k : Jk J) : ∃ s1 s2 s3 s4 s5 s6 s7 s8 s9 s10 s11 : Slot, J = [s1, s2, s3, s4, s5, s6, s7, s8, s9, s10, s11] ∧ freeK (some s1) = true ∧ freeK (some s2) = true ∧ freeK (some s3) = true ∧ freeK (some s4) = true ∧ freeK (some s5) = true ∧ freeK (some s6) = true ∧ freeK (some s7) = true ∧ freeK (some s8) = true ∧ freeK (some s9) = true ∧ freeK (some s10) = true ∧ freeK (some s11) = true := by
  obtain ⟨s1, J, rfl, f1, h, k⟩ := jk_split h k
  obtain ⟨s2, J, rfl, f2, h, k⟩ := jk_split h k
  obtain ⟨s3, J, rfl, f3, h, k⟩ := jk_split h k
  obtain ⟨s4, J, rfl, f4, h, k⟩ := jk_split h k
  obtain ⟨s5, J, rfl, f5, h, k⟩ := jk_split h k
  obtain ⟨s6, J, rfl, f6, h, k⟩ := jk_split h k
  obtain ⟨s7, J, rfl, f7, h, k⟩ := jk_split h k
  obtain ⟨s8, J, rfl, f8, h, k⟩ := jk_split h k
  obtain ⟨s9, J, rfl, f9, h, k⟩ := jk_split h k
  obtain ⟨s10, J, rfl, f10, h, k⟩ := jk_split h k
  obtain ⟨s11, J, rfl, f11, h, k⟩ := jk_split h k
  obtain rfl := jk_0 h
  exact ⟨s1, s2, s3, s4, s5, s6, s7, s8, s9, s10, s11, rfl, f1, f2, f3, f4, f5, f6, f7, f8, f9, f10, f11⟩
theorem jk12 {J : Sls} (h : J.length = 12) (k : Jk J) : ∃ s1 s2 s3 s4 s5 s6 s7 s8 s9 s10 s11 s12 : Slot, J = [s1, s2, s3, s4, s5, s6, s7, s8, s9, s10, s11, s12] ∧ freeK (some s1) = true ∧ freeK (some s2) = true ∧ freeK (some s3) = true ∧ freeK (some s4) = true ∧ freeK (some s5) = true ∧ freeK (some s6) = true ∧ freeK (some s7) = true ∧ freeK (some s8) = true ∧ freeK (some s9) = true ∧ freeK (some s10) = true ∧ freeK (some s11) = true ∧ freeK (some s12) = true := by
  obtain ⟨s1, J, rfl, f1, h, k⟩ := jk_split h k
  obtain ⟨s2, J, rfl, f2, h, k⟩ := jk_split h k
  obtain ⟨s3, J, rfl, f3, h, k⟩ := jk_split h k
  obtain ⟨s4, J, rfl, f4, h, k⟩ := jk_split h k
  obtain ⟨s5, J, rfl, f5, h, k⟩ := jk_split h k
  obtain ⟨s6, J, rfl, f6, h, k⟩ := jk_split h k
  obtain ⟨s7, J, rfl, f7, h, k⟩ := jk_split h k
  obtain ⟨s8, J, rfl, f8, h, k⟩ := jk_split h k
  obtain ⟨s9, J, rfl, f9, h, k⟩ := jk_split h k
  obtain ⟨s10, J, rfl, f10, h, k⟩ := jk_split h k
  obtain ⟨s11, J, rfl, f11, h, k⟩ := jk_split h k
  obtain ⟨s12, J, rfl, f12, h, k⟩ := jk_split h k
  obtain rfl := jk_0 h
  exact ⟨s1, s2, s3, s4, s5, s6, s7, s8, s9, s10, s11, s12, rfl, f1, f2, f3, f4, f5, f6, f7, f8, f9, f10, f11, f12⟩
theorem jk13 {J : Sls} (h : J.length = 13) (k : Jk J) : ∃ s1 s2 s3 s4 s5 s6 s7 s8 s9 s10 s11 s12 s13 : Slot, J = [s1, s2, s3, s4, s5, s6, s7, s8, s9, s10, s11, s12, s13] ∧ freeK (some s1) = true ∧ freeK (some s2) = true ∧ freeK (some s3) = true ∧ freeK (some s4) = true ∧ freeK (some s5) = true ∧ freeK (some s6) = true ∧ freeK (some s7) = true ∧ freeK (some s8) = true ∧ freeK (some s9) = true ∧ freeK (some s10) = true ∧ freeK (some s11) = true ∧ freeK (some s12) = true ∧ freeK (some s13) = true := by
  obtain ⟨s1, J, rfl, f1, h, k⟩ := jk_split h k
  obtain ⟨s2, J, rfl, f2, h, k⟩ := jk_split h k
  obtain ⟨s3, J, rfl, f3, h, k⟩ := jk_split h k
  obtain ⟨s4, J, rfl, f4, h, k⟩ := jk_split h k
  obtain ⟨s5, J, rfl, f5, h, k⟩ := jk_split h k
  obtain ⟨s6, J, rfl, f6, h, k⟩ := jk_split h k
  obtain ⟨s7, J, rfl, f7, h, k⟩ := jk_split h k
  obtain ⟨s8, J, rfl, f8, h, k⟩ := jk_split h k
  obtain ⟨s9, J, rfl, f9, h, k⟩ := jk_split h k
  obtain ⟨s10, J, rfl, f10, h, k⟩ := jk_split h k
  obtain ⟨s11, J, rfl, f11, h, k⟩ := jk_split h k
  obtain ⟨s12, J, rfl, f12, h, k⟩ := jk_split h k
  obtain ⟨s13, J, rfl, f13, h, k⟩ := jk_split h k
  obtain rfl := jk_0 h
  exact ⟨s1, s2, s3, s4, s5, s6, s7, s8, s9, s10, s11, s12, s13, rfl, f1, f2, f3, f4, f5, f6, f7, f8, f9, f10, f11, f12, f13⟩
theorem jk14 {J : Sls} (h : J.length = 14) (k : Jk J) : ∃ s1 s2 s3 s4 s5 s6 s7 s8 s9 s10 s11 s12 s13 s14 : Slot, J = [s1, s2, s3, s4, s5, s6, s7, s8, s9, s10, s11, s12, s13, s14] ∧ freeK (some s1) = true ∧ freeK (some s2) = true ∧ freeK (some s3) = true ∧ freeK (some s4) = true ∧ freeK (some s5) = true ∧ freeK (some s6) = true ∧ freeK (some s7) = true ∧ freeK (some s8) = true ∧ freeK (some s9) = true ∧ freeK (some s10) = true ∧ freeK (some s11) = true ∧ freeK (some s12) = true ∧ freeK (some s13) = true ∧ freeK (some s14) = true := by
  obtain ⟨s1, J, rfl, f1, h, k⟩ := jk_split h k
  obtain ⟨s2, J, rfl, f2, h, k⟩ := jk_split h k
  obtain ⟨s3, J, rfl, f3, h, k⟩ := jk_split h k
  obtain ⟨s4, J, rfl, f4, h, k⟩ := jk_split h k
  obtain ⟨s5, J, rfl, f5, h, k⟩ := jk_split h k
  obtain ⟨s6, J, rfl, f6, h, k⟩ := jk_split h k
  obtain ⟨s7, J, rfl, f7, h, k⟩ := jk_split h k
  obtain ⟨s8, J, rfl, f8, h, k⟩ := jk_split h k
  obtain ⟨s9, J, rfl, f9, h, k⟩ := jk_split h k
  obtain ⟨s10, J, rfl, f10, h, k⟩ := jk_split h k
  obtain ⟨s11, J, rfl, f11, h, k⟩ := jk_split h k
  obtain ⟨s12, J, rfl, f12, h, k⟩ := jk_split h k
  obtain ⟨s13, J, rfl, f13, h, k⟩ := jk_split h k
  obtain ⟨s14, J, rfl, f14, h, k⟩ := jk_split h k
  obtain rfl := jk_0 h
  exact ⟨s1, s2, s3, s4, s5, s6, s7, s8, s9, s10, s11, s12, s13, s14, rfl, f1, f2, f3, f4, f5, f6, f7, f8, f9, f10, f11, f12, f13, f14⟩
theorem jk15 {J : Sls} (h : J.length = 15) (k : Jk J) : ∃ s1 s2 s3 s4 s5 s6 s7 s8 s9 s10 s11 s12 s13 s14 s15 : Slot, J = [s1, s2, s3, s4, s5, s6, s7, s8, s9, s10, s11, s12, s13, s14, s15] ∧ freeK (some s1) = true ∧ freeK (some s2) = true ∧ freeK (some s3) = true ∧ freeK (some s4) = true ∧ freeK (some s5) = true ∧ freeK (some s6) = true ∧ freeK (some s7) = true ∧ freeK (some s8) = true ∧ freeK (some s9) = true ∧ freeK (some s10) = true ∧ freeK (some s11) = true ∧ freeK (some s12) = true ∧ freeK (some s13) = true ∧ freeK (some s14) = true ∧ freeK (some s15) = true := by
  obtain ⟨s1, J, rfl, f1, h, k⟩ := jk_split h k
  obtain ⟨s2, J, rfl, f2, h, k⟩ := jk_split h k
  obtain ⟨s3, J, rfl, f3, h, k⟩ := jk_split h k
  obtain ⟨s4, J, rfl, f4, h, k⟩ := jk_split h k
  obtain ⟨s5, J, rfl, f5, h, k⟩ := jk_split h k
  obtain ⟨s6, J, rfl, f6, h, k⟩ := jk_split h k
  obtain ⟨s7, J, rfl, f7, h, k⟩ := jk_split h k
  obtain ⟨s8, J, rfl, f8, h, k⟩ := jk_split h k
  obtain ⟨s9, J, rfl, f9, h, k⟩ := jk_split h k
  obtain ⟨s10, J, rfl, f10, h, k⟩ := jk_split h k
  obtain ⟨s11, J, rfl, f11, h, k⟩ := jk_split h k
  obtain ⟨s12, J, rfl, f12, h, k⟩ := jk_split h k
  obtain ⟨s13, J, rfl, f13, h, k⟩ := jk_split h k
  obtain ⟨s14, J, rfl, f14, h, k⟩ := jk_split h k
  obtain ⟨s15, J, rfl, f15, h, k⟩ := jk_split h k
  obtain rfl := jk_0 h
  exact ⟨s1, s2, s3, s4, s5, s6, s7, s8, s9, s10, s11, s12, s13, s14, s15, rfl, f1, f2, f3, f4, f5, f6, f7, f8, f9, f10, f11, f12, f13, f14, f15⟩
theorem jk16 {J : Sls} (h : J.length = 16) (k : Jk J) : ∃ s1 s2 s3 s4 s5 s6 s7 s8 s9 s10 s11 s12 s13 s14 s15 s16 : Slot, J = [s1, s2, s3, s4, s5, s6, s7, s8, s9, s10, s11, s12, s13, s14, s15, s16] ∧ freeK (some s1) = true ∧ freeK (some s2) = true ∧ freeK (some s3) = true ∧ freeK (some s4) = true ∧ freeK (some s5) = true ∧ freeK (some s6) = true ∧ freeK (some s7) = true ∧ freeK (some s8) = true ∧ freeK (some s9) = true ∧ freeK (some s10) = true ∧ freeK (some s11) = true ∧ freeK (some s12) = true ∧ freeK (some s13) = true ∧ freeK (some s14) = true ∧ freeK (some s15) = true ∧ freeK (some s16) = true := by
  obtain ⟨s1, J, rfl, f1, h, k⟩ := jk_split h k
  obtain ⟨s2, J, rfl, f2, h, k⟩ := jk_split h k
  obtain ⟨s3, J, rfl, f3, h, k⟩ := jk_split h k
  obtain ⟨s4, J, rfl, f4, h, k⟩ := jk_split h k
  obtain ⟨s5, J, rfl, f5, h, k⟩ := jk_split h k
  obtain ⟨s6, J, rfl, f6, h, k⟩ := jk_split h k
  obtain ⟨s7, J, rfl, f7, h, k⟩ := jk_split h k
  obtain ⟨s8, J, rfl, f8, h, k⟩ := jk_split h k
  obtain ⟨s9, J, rfl, f9, h, k⟩ := jk_split h k
  obtain ⟨s10, J, rfl, f10, h, k⟩ := jk_split h k
  obtain ⟨s11, J, rfl, f11, h, k⟩ := jk_split h k
  obtain ⟨s12, J, rfl, f12, h, k⟩ := jk_split h k
  obtain ⟨s13, J, rfl, f13, h, k⟩ := jk_split h k
  obtain ⟨s14, J, rfl, f14, h, k⟩ := jk_split h k
  obtain ⟨s15, J, rfl, f15, h, k⟩ := jk_split h k
  obtain ⟨s16, J, rfl, f16, h, k⟩ := jk_split h k
  obtain rfl := jk_0 h
  exact ⟨s1, s2, s3, s4, s5, s6, s7, s8, s9, s10, s11, s12, s13, s14, s15, s16, rfl, f1, f2, f3, f4, f5, f6, f7, f8, f9, f10, f11, f12, f13, f14, f15, f16⟩
theorem jk17 {J : Sls} (h : J.length = 17) (k : Jk J) : ∃ s1 s2 s3 s4 s5 s6 s7 s8 s9 s10 s11 s12 s13 s14 s15 s16 s17 : Slot, J = [s1, s2, s3, s4, s5, s6, s7, s8, s9, s10, s11, s12, s13, s14, s15, s16, s17] ∧ freeK (some s1) = true ∧ freeK (some s2) = true ∧ freeK (some s3) = true ∧ freeK (some s4) = true ∧ freeK (some s5) = true ∧ freeK (some s6) = true ∧ freeK (some s7) = true ∧ freeK (some s8) = true ∧ freeK (some s9) = true ∧ freeK (some s10) = true ∧ freeK (some s11) = true ∧ freeK (some s12) = true ∧ freeK (some s13) = true ∧ freeK (some s14) = true ∧ freeK (some s15) = true ∧ freeK (some s16) = true ∧ freeK (some s17) = true := by
  obtain ⟨s1, J, rfl, f1, h, k⟩ := jk_split h k
  obtain ⟨s2, J, rfl, f2, h, k⟩ := jk_split h k
  obtain ⟨s3, J, rfl, f3, h, k⟩ := jk_split h k
  obtain ⟨s4, J, rfl, f4, h, k⟩ := jk_split h k
  obtain ⟨s5, J, rfl, f5, h, k⟩ := jk_split h k
  obtain ⟨s6, J, rfl, f6, h, k⟩ := jk_split h k
  obtain ⟨s7, J, rfl, f7, h, k⟩ := jk_split h k
  obtain ⟨s8, J, rfl, f8, h, k⟩ := jk_split h k
  obtain ⟨s9, J, rfl, f9, h, k⟩ := jk_split h k
  obtain ⟨s10, J, rfl, f10, h, k⟩ := jk_split h k
  obtain ⟨s11, J, rfl, f11, h, k⟩ := jk_split h k
  obtain ⟨s12, J, rfl, f12, h, k⟩ := jk_split h k
  obtain ⟨s13, J, rfl, f13, h, k⟩ := jk_split h k
  obtain ⟨s14, J, rfl, f14, h, k⟩ := jk_split h k
  obtain ⟨s15, J, rfl, f15, h, k⟩ := jk_split h k
  obtain ⟨s16, J, rfl, f16, h, k⟩ := jk_split h k
  obtain ⟨s17, J, rfl, f17, h, k⟩ := jk_split h k
  obtain rfl := jk_0 h
  exact ⟨s1, s2, s3, s4, s5, s6, s7, s8, s9, s10, s11, s12, s13, s14, s15, s16, s17, rfl, f1, f2, f3, f4, f5, f6, f7, f8, f9, f10, f11, f12, f13, f14, f15, f16, f17⟩
theorem jk18 {J : Sls} (h : J.length = 18) (k : Jk J) : ∃ s1 s2 s3 s4 s5 s6 s7 s8 s9 s10 s11 s12 s13 s14 s15 s16 s17 s18 : Slot, J = [s1, s2, s3, s4, s5, s6, s7, s8, s9, s10, s11, s12, s13, s14, s15, s16, s17, s18] ∧ freeK (some s1) = true ∧ freeK (some s2) = true ∧ freeK (some s3) = true ∧ freeK (some s4) = true ∧ freeK (some s5) = true ∧ freeK (some s6) = true ∧ freeK (some s7) = true ∧ freeK (some s8) = true ∧ freeK (some s9) = true ∧ freeK (some s10) = true ∧ freeK (some s11) = true ∧ freeK (some s12) = true ∧ freeK (some s13) = true ∧ freeK (some s14) = true ∧ freeK (some s15) = true ∧ freeK (some s16) = true ∧ freeK (some s17) = true ∧ freeK (some s18) = true := by
  obtain ⟨s1, J, rfl, f1, h, k⟩ := jk_split h k
  obtain ⟨s2, J, rfl, f2, h, k⟩ := jk_split h k
  obtain ⟨s3, J, rfl, f3, h, k⟩ := jk_split h k
  obtain ⟨s4, J, rfl, f4, h, k⟩ := jk_split h k
  obtain ⟨s5, J, rfl, f5, h, k⟩ := jk_split h k
  obtain ⟨s6, J, rfl, f6, h, k⟩ := jk_split h k
  obtain ⟨s7, J, rfl, f7, h, k⟩ := jk_split h k
  obtain ⟨s8, J, rfl, f8, h, k⟩ := jk_split h k
  obtain ⟨s9, J, rfl, f9, h, k⟩ := jk_split h k
  obtain ⟨s10, J, rfl, f10, h, k⟩ := jk_split h k
  obtain ⟨s11, J, rfl, f11, h, k⟩ := jk_split h k
  obtain ⟨s12, J, rfl, f12, h, k⟩ := jk_split h k
  obtain ⟨s13, J, rfl, f13, h, k⟩ := jk_split h k
  obtain ⟨s14, J, rfl, f14, h, k⟩ := jk_split h k
  obtain ⟨s15, J, rfl, f15, h, k⟩ := jk_split h k
  obtain ⟨s16, J, rfl, f16, h, k⟩ := jk_split h k
  obtain ⟨s17, J, rfl, f17, h, k⟩ := jk_split h k
  obtain ⟨s18, J, rfl, f18, h, k⟩ := jk_split h k
  obtain rfl := jk_0 h
  exact ⟨s1, s2, s3, s4, s5, s6, s7, s8, s9, s10, s11, s12, s13, s14, s15, s16, s17, s18, rfl, f1, f2, f3, f4, f5, f6, f7, f8, f9, f10, f11, f12, f13, f14, f15, f16, f17, f18⟩
theorem jk19 {J : Sls} (h : J.length = 19) (k : Jk J) : ∃ s1 s2 s3 s4 s5 s6 s7 s8 s9 s10 s11 s12 s13 s14 s15 s16 s17 s18 s19 : Slot, J = [s1, s2, s3, s4, s5, s6, s7, s8, s9, s10, s11, s12, s13, s14, s15, s16, s17, s18, s19] ∧ freeK (some s1) = true ∧ freeK (some s2) = true ∧ freeK (some s3) = true ∧ freeK (some s4) = true ∧ freeK (some s5) = true ∧ freeK (some s6) = true ∧ freeK (some s7) = true ∧ freeK (some s8) = true ∧ freeK (some s9) = true ∧ freeK (some s10) = true ∧ freeK (some s11) = true ∧ freeK (some s12) = true ∧ freeK (some s13) = true ∧ freeK (some s14) = true ∧ freeK (some s15) = true ∧ freeK (some s16) = true ∧ freeK (some s17) = true ∧ freeK (some s18) = true ∧ freeK (some s19) = true := by
  obtain ⟨s1, J, rfl, f1, h, k⟩ := jk_split h k
  obtain ⟨s2, J, rfl, f2, h, k⟩ := jk_split h k
  obtain ⟨s3, J, rfl, f3, h, k⟩ := jk_split h k
  obtain ⟨s4, J, rfl, f4, h, k⟩ := jk_split h k
  obtain ⟨s5, J, rfl, f5, h, k⟩ := jk_split h k
  obtain ⟨s6, J, rfl, f6, h, k⟩ := jk_split h k
  obtain ⟨s7, J, rfl, f7, h, k⟩ := jk_split h k
  obtain ⟨s8, J, rfl, f8, h, k⟩ := jk_split h k
  obtain ⟨s9, J, rfl, f9, h, k⟩ := jk_split h k
  obtain ⟨s10, J, rfl, f10, h, k⟩ := jk_split h k
  obtain ⟨s11, J, rfl, f11, h, k⟩ := jk_split h k
  obtain ⟨s12, J, rfl, f12, h, k⟩ := jk_split h k
  obtain ⟨s13, J, rfl, f13, h, k⟩ := jk_split h k
  obtain ⟨s14, J, rfl, f14, h, k⟩ := jk_split h k
  obtain ⟨s15, J, rfl, f15, h, k⟩ := jk_split h k
  obtain ⟨s16, J, rfl, f16, h, k⟩ := jk_split h k
  obtain ⟨s17, J, rfl, f17, h, k⟩ := jk_split h k
  obtain ⟨s18, J, rfl, f18, h, k⟩ := jk_split h k
  obtain ⟨s19, J, rfl, f19, h, k⟩ := jk_split h k
  obtain rfl := jk_0 h
  exact ⟨s1, s2, s3, s4, s5, s6, s7, s8, s9, s10, s11, s12, s13, s14, s15, s16, s17, s18, s19, rfl, f1, f2, f3, f4, f5, f6, f7, f8, f9, f10, f11, f12, f13, f14, f15, f16, f17, f18, f19⟩
theorem jk20 {J : Sls} (h : J.length = 20) (k : Jk J) : ∃ s1 s2 s3 s4 s5 s6 s7 s8 s9 s10 s11 s12 s13 s14 s15 s16 s17 s18 s19 s20 : Slot, J = [s1, s2, s3, s4, s5, s6, s7, s8, s9, s10, s11, s12, s13, s14, s15, s16, s17, s18, s19, s20] ∧ freeK (some s1) = true ∧ freeK (some s2) = true ∧ freeK (some s3) = true ∧ freeK (some s4) = true ∧ freeK (some s5) = true ∧ freeK (some s6) = true ∧ freeK (some s7) = true ∧ freeK (some s8) = true ∧ freeK (some s9) = true ∧ freeK (some s10) = true ∧ freeK (some s11) = true ∧ freeK (some s12) = true ∧ freeK (some s13) = true ∧ freeK (some s14) = true ∧ freeK (some s15) = true ∧ freeK (some s16) = true ∧ freeK (some s17) = true ∧ freeK (some s18) = true ∧ freeK (some s19) = true ∧ freeK (some s20) = true := by
  obtain ⟨s1, J, rfl, f1, h, k⟩ := jk_split h k
  obtain ⟨s2, J, rfl, f2, h, k⟩ := jk_split h k
  obtain ⟨s3, J, rfl, f3, h, k⟩ := jk_split h k
  obtain ⟨s4, J, rfl, f4, h, k⟩ := jk_split h k
  obtain ⟨s5, J, rfl, f5, h, k⟩ := jk_split h k
  obtain ⟨s6, J, rfl, f6, h, k⟩ := jk_split h k
  obtain ⟨s7, J, rfl, f7, h, k⟩ := jk_split h k
  obtain ⟨s8, J, rfl, f8, h, k⟩ := jk_split h k
  obtain ⟨s9, J, rfl, f9, h, k⟩ := jk_split h k
  obtain ⟨s10, J, rfl, f10, h, k⟩ := jk_split h k
  obtain ⟨s11, J, rfl, f11, h, k⟩ := jk_split h k
  obtain ⟨s12, J, rfl, f12, h, k⟩ := jk_split h k
  obtain ⟨s13, J, rfl, f13, h, k⟩ := jk_split h k
  obtain ⟨s14, J, rfl, f14, h, k⟩ := jk_split h k
  obtain ⟨s15, J, rfl, f15, h, k⟩ := jk_split h k
  obtain ⟨s16, J, rfl, f16, h, k⟩ := jk_split h k
  obtain ⟨s17, J, rfl, f17, h, k⟩ := jk_split h k
  obtain ⟨s18, J, rfl, f18, h, k⟩ := jk_split h k
  obtain ⟨s19, J, rfl, f19, h, k⟩ := jk_split h k
  obtain ⟨s20, J, rfl, f20, h, k⟩ := jk_split h k
  obtain rfl := jk_0 h
  exact ⟨s1, s2, s3, s4, s5, s6, s7, s8, s9, s10, s11, s12, s13, s14, s15, s16, s17, s18, s19, s20, rfl, f1, f2, f3, f4, f5, f6, f7, f8, f9, f10, f11, f12, f13, f14, f15, f16, f17, f18, f19, f20⟩
theorem jk21 {J : Sls} (h : J.length = 21) (k : Jk J) : ∃ s1 s2 s3 s4 s5 s6 s7 s8 s9 s10 s11 s12 s13 s14 s15 s16 s17 s18 s19 s20 s21 : Slot, J = [s1, s2, s3, s4, s5, s6, s7, s8, s9, s10, s11, s12, s13, s14, s15, s16, s17, s18, s19, s20, s21] ∧ freeK (some s1) = true ∧ freeK (some s2) = true ∧ freeK (some s3) = true ∧ freeK (some s4) = true ∧ freeK (some s5) = true ∧ freeK (some s6) = true ∧ freeK (some s7) = true ∧ freeK (some s8) = true ∧ freeK (some s9) = true ∧ freeK (some s10) = true ∧ freeK (some s11) = true ∧ freeK (some s12) = true ∧ freeK (some s13) = true ∧ freeK (some s14) = true ∧ freeK (some s15) = true ∧ freeK (some s16) = true ∧ freeK (some s17) = true ∧ freeK (some s18) = true ∧ freeK (some s19) = true ∧ freeK (some s20) = true ∧ freeK (some s21) = true := by
  obtain ⟨s1, J, rfl, f1, h, k⟩ := jk_split h k
  obtain ⟨s2, J, rfl, f2, h, k⟩ := jk_split h k
  obtain ⟨s3, J, rfl, f3, h, k⟩ := jk_split h k
  obtain ⟨s4, J, rfl, f4, h, k⟩ := jk_split h k
  obtain ⟨s5, J, rfl, f5, h, k⟩ := jk_split h k
  obtain ⟨s6, J, rfl, f6, h, k⟩ := jk_split h k
  obtain ⟨s7, J, rfl, f7, h, k⟩ := jk_split h k
  obtain ⟨s8, J, rfl, f8, h, k⟩ := jk_split h k
  obtain ⟨s9, J, rfl, f9, h, k⟩ := jk_split h k
  obtain ⟨s10, J, rfl, f10, h, k⟩ := jk_split h k
  obtain ⟨s11, J, rfl, f11, h, k⟩ := jk_split h k
  obtain ⟨s12, J, rfl, f12, h, k⟩ := jk_split h k
  obtain ⟨s13, J, rfl, f13, h, k⟩ := jk_split h k
  obtain ⟨s14, J, rfl, f14, h, k⟩ := jk_split h k
  obtain ⟨s15, J, rfl, f15, h, k⟩ := jk_split h k
  obtain ⟨s16, J, rfl, f16, h, k⟩ := jk_split h k
  obtain ⟨s17, J, rfl, f17, h, k⟩ := jk_split h k
  obtain ⟨s18, J, rfl, f18, h, k⟩ := jk_split h k
  obtain ⟨s19, J, rfl, f19, h, k⟩ := jk_split h k
  obtain ⟨s20, J, rfl, f20, h, k⟩ := jk_split h k
  obtain ⟨s21, J, rfl, f21, h, k⟩ := jk_split h k
  obtain rfl := jk_0 h
  exact ⟨s1, s2, s3, s4, s5, s6, s7, s8, s9, s10, s11, s12, s13, s14, s15, s16, s17, s18, s19, s20, s21, rfl, f1, f2, f3, f4, f5, f6, f7, f8, f9, f10, f11, f12, f13, f14, f15, f16, f17, f18, f19, f20, f21⟩
theorem jk22 {J : Sls} (h : J.length = 22) (k : Jk J) : ∃ s1 s2 s3 s4 s5 s6 s7 s8 s9 s10 s11 s12 s13 s14 s15 s16 s17 s18 s19 s20 s21 s22 : Slot, J = [s1, s2, s3, s4, s5, s6, s7, s8, s9, s10, s11, s12, s13, s14, s15, s16, s17, s18, s19, s20, s21, s22] ∧ freeK (some s1) = true ∧ freeK (some s2) = true ∧ freeK (some s3) = true ∧ freeK (some s4) = true ∧ freeK (some s5) = true ∧ freeK (some s6) = true ∧ freeK (some s7) = true ∧ freeK (some s8) = true ∧ freeK (some s9) = true ∧ freeK (some s10) = true ∧ freeK (some s11) = true ∧ freeK (some s12) = true ∧ freeK (some s13) = true ∧ freeK (some s14) = true ∧ freeK (some s15) = true ∧ freeK (some s16) = true ∧ freeK (some s17) = true ∧ freeK (some s18) = true ∧ freeK (some s19) = true ∧ freeK (some s20) = true ∧ freeK (some s21) = true ∧ freeK (some s22) = true := by
  obtain ⟨s1, J, rfl, f1, h, k⟩ := jk_split h k
  obtain ⟨s2, J, rfl, f2, h, k⟩ := jk_split h k
  obtain ⟨s3, J, rfl, f3, h, k⟩ := jk_split h k
  obtain ⟨s4, J, rfl, f4, h, k⟩ := jk_split h k
  obtain ⟨s5, J, rfl, f5, h, k⟩ := jk_split h k
  obtain ⟨s6, J, rfl, f6, h, k⟩ := jk_split h k
  obtain ⟨s7, J, rfl, f7, h, k⟩ := jk_split h k
  obtain ⟨s8, J, rfl, f8, h, k⟩ := jk_split h k
  obtain ⟨s9, J, rfl, f9, h, k⟩ := jk_split h k
  obtain ⟨s10, J, rfl, f10, h, k⟩ := jk_split h k
  obtain ⟨s11, J, rfl, f11, h, k⟩ := jk_split h k
  obtain ⟨s12, J, rfl, f12, h, k⟩ := jk_split h k
  obtain ⟨s13, J, rfl, f13, h, k⟩ := jk_split h k
  obtain ⟨s14, J, rfl, f14, h, k⟩ := jk_split h k
  obtain ⟨s15, J, rfl, f15, h, k⟩ := jk_split h k
  obtain ⟨s16, J, rfl, f16, h, k⟩ := jk_split h k
  obtain ⟨s17, J, rfl, f17, h, k⟩ := jk_split h k
  obtain ⟨s18, J, rfl, f18, h, k⟩ := jk_split h k
  obtain ⟨s19, J, rfl, f19, h, k⟩ := jk_split h k
  obtain ⟨s20, J, rfl, f20, h, k⟩ := jk_split h k
  obtain ⟨s21, J, rfl, f21, h, k⟩ := jk_split h k
  obtain ⟨s22, J, rfl, f22, h, k⟩ := jk_split h k
  obtain rfl := jk_0 h
  exact ⟨s1, s2, s3, s4, s5, s6, s7, s8, s9, s10, s11, s12, s13, s14, s15, s16, s17, s18, s19, s20, s21, s22, rfl, f1, f2, f3, f4, f5, f6, f7, f8, f9, f10, f11, f12, f13, f14, f15, f16, f17, f18, f19, f20, f21, f22⟩
theorem jk_one {s : Slot} {J : Sls} (f : freeK (some s) = true) (k : Jk J) : Jk (s :: J) := jk_cons.mpr ⟨f, k⟩
/-- plain things, at most n deep -/
theorem pl_i {n : Nat} {i : Int} : Pln (n + 1) (.int i) := .int i
theorem pl_b {n : Nat} {b : Bool} : Pln (n + 1) (.bl b) := .bl b
theorem pl_n {n : Nat} : Pln (n + 1) .non := .non
theorem pl_s {n : Nat} {x : Str} : Pln (n + 1) (.str x) := .str x
theorem pl_l {n : Nat} {ds : List D} (h : ∀ d ∈ ds, Pln n d) (l : ds.length ≤ LIM) : Pln (n + 1) (.lst ds) := .lst h l
theorem pl_t {n : Nat} {ds : List D} (h : ∀ d ∈ ds, Pln n d) (l : ds.length ≤ LIM) : Pln (n + 1) (.tup ds) := .tup h l
theorem al_nil {n : Nat} : ∀ d ∈ ([] : List D), Pln n d := fun d h => nomatch h
theorem al_cons {n : Nat} {d : D} {ds : List D} (h : Pln n d) (t : ∀ d ∈ ds, Pln n d) : ∀ e ∈ d :: ds, Pln n e := fun e he => by
  rcases List.mem_cons.mp he with rfl | he
  · exact h
  · exact t e he
theorem pln_le : ∀ {n m : Nat} {d : D}, n ≤ m → Pln n d → Pln m d
  | _, 0, _, h, p => by cases p <;> omega
  | _, m + 1, _, h, .int i => .int i
  | _, m + 1, _, h, .bl b => .bl b
  | _, m + 1, _, h, .non => .non
  | _, m + 1, _, h, .str x => .str x
  | _, m + 1, _, h, .tup H l => .tup (fun d hd => pln_le (by omega) (H d hd)) l
  | _, m + 1, _, h, .lst H l => .lst (fun d hd => pln_le (by omega) (H d hd)) l
theorem pl_tr {t : Tr} {n : Nat} (h : t.dep < n) : Pln n t.d := pln_d t n h
theorem pl_rows {F : List (List Int)} {n : Nat} (h : ∀ a ∈ F, a.length ≤ 1000) : ∀ d ∈ F.map tupI, Pln (n + 2) d := fun d hd => by
  obtain ⟨a, ha, rfl⟩ := List.mem_map.mp hd
  exact .tup (fun d hd => by obtain ⟨i, _, rfl⟩ := List.mem_map.mp hd; exact .int i) (by rw [List.length_map]; exact Nat.le_trans (h a ha) (by decide))
theorem tsort_mem {F : List (List Int)} {a : List Int} (h : a ∈ tsort F) : a ∈ F := (tsort_perm F).mem_iff.mp h
theorem tsort_len {F : List (List Int)} : (tsort F).length = F.length := (tsort_perm F).length_eq
theorem pl_brs {t : Tr} {N : Int} {n : Nat} (g : Grp 1 N t) (hN : N ≤ 60) : Pln (n + 3) t.brs := by
  obtain ⟨h1, h2⟩ := g.sp hN
  refine .tup (pl_rows fun a ha => ?_) (by rw [List.length_map, tsort_len]; exact Nat.le_trans (Nat.le_of_lt h2) (by decide))
  rw [(h1 a (tsort_mem ha)).1]; decide
/-- the slot to which a grouping as lists is stored -/
def Tr.sslot : Tr → Slot
  | .leaf i => .v (.int i)
  | .node l r => .own 0 [l.soft, r.soft]
theorem asgM_soft {i : Nat} {ρ : Sls} : ∀ {t : Tr}, asgM i ρ t.isN t.soft = some (ρ.set i t.sslot)
  | .leaf _ => rfl
  | .node _ _ => rfl
theorem free_soft : ∀ {t : Tr}, freeK (some t.sslot) = true
  | .leaf _ => rfl
  | .node _ _ => rfl
theorem isSet_soft : ∀ {t : Tr}, isSetS (some t.sslot) = true
  | .leaf _ => rfl
  | .node _ _ => rfl
theorem fdL_soft {ds : List D} : ∀ {t : Tr}, fdL (some t.sslot) (some ds) = some (t.soft :: ds)
  | .leaf _ => rfl
  | .node _ _ => rfl
theorem set_self {ρ : Sls} {i : Nat} {s : Slot} (h : ρ[i]? = some s) : ρ.set i s = ρ := by
  refine List.ext_getElem? fun j => ?_
  by_cases e : j = i
  · subst e
    rw [List.getElem?_set_self (List.getElem?_eq_some_iff.mp h).1, h]
  · rw [List.getElem?_set_ne (Ne.symm e)]
theorem slK_soft {i : Nat} {ρ : Sls} : ∀ {t : Tr}, ρ[i]? = some t.sslot → slK i ρ (some t.sslot) = some (.ok ⟨t.soft, false⟩ (ρ.set i (.v t.soft)))
  | .leaf j, h => (show some (Out.ok (⟨.int j, false⟩ : R) ρ) = some (.ok ⟨.int j, false⟩ (ρ.set i (.v (.int j)))) from by rw [set_self (s := .v (.int j)) h])
  | .node _ _, _ => rfl
theorem p_l0 : gLst [] = some ⟨.lst [], true⟩ := rfl
theorem p_l1 {a0 : D} : gLst [a0] = some ⟨.lst [a0], true⟩ := rfl
theorem p_l2 {a0 a1 : D} : gLst [a0, a1] = some ⟨.lst [a0, a1], true⟩ := rfl
theorem p_l3 {a0 a1 a2 : D} : gLst [a0, a1, a2] = some ⟨.lst [a0, a1, a2], true⟩ := rfl
theorem p_l4 {a0 a1 a2 a3 : D} : gLst [a0, a1, a2, a3] = some ⟨.lst [a0, a1, a2, a3], true⟩ := rfl
theorem p_l5 {a0 a1 a2 a3 a4 : D} : gLst [a0, a1, a2, a3, a4] = some ⟨.lst [a0, a1, a2, a3, a4], true⟩ := rfl
theorem p_l6 {a0 a1 a2 a3 a4 a5 : D} : gLst [a0, a1, a2, a3, a4, a5] = some ⟨.lst [a0, a1, a2, a3, a4, a5], true⟩ := rfl
theorem p_l7 {a0 a1 a2 a3 a4 a5 a6 : D} : gLst [a0, a1, a2, a3, a4, a5, a6] = some ⟨.lst [a0, a1, a2, a3, a4, a5, a6], true⟩ := rfl
theorem p_l8 {a0 a1 a2 a3 a4 a5 a6 a7 : D} : gLst [a0, a1, a2, a3, a4, a5, a6, a7] = some ⟨.lst [a0, a1, a2, a3, a4, a5, a6, a7], true⟩ := rfl
theorem p_l9 {a0 a1 a2 a3 a4 a5 a6 a7 a8 : D} : gLst [a0, a1, a2, a3, a4, a5, a6, a7, a8] = some ⟨.lst [a0, a1, a2, a3, a4, a5, a6, a7, a8], true⟩ := rfl
theorem p_l10 {a0 a1 a2 a3 a4 a5 a6 a7 a8 a9 : D} : gLst [a0, a1, a2, a3, a4, a5, a6, a7, a8, a9] = some ⟨.lst [a0, a1, a2, a3, a4, a5, a6, a7, a8, a9], true⟩ := rfl
theorem p_l11 {a0 a1 a2 a3 a4 a5 a6 a7 a8 a9 a10 : D} : gLst [a0, a1, a2, a3, a4, a5, a6, a7, a8, a9, a10] = some ⟨.lst [a0, a1, a2, a3, a4, a5, a6, a7, a8, a9, a10], true⟩ := rfl
theorem p_l12 {a0 a1 a2 a3 a4 a5 a6 a7 a8 a9 a10 a11 : D} : gLst [a0, a1, a2, a3, a4, a5, a6, a7, a8, a9, a10, a11] = some ⟨.lst [a0, a1, a2, a3, a4, a5, a6, a7, a8, a9, a10, a11], true⟩ := rfl
theorem p_l13 {a0 a1 a2 a3 a4 a5 a6 a7 a8 a9 a10 a11 a12 : D} : gLst [a0, a1, a2, a3, a4, a5, a6, a7, a8, a9, a10, a11, a12] = some ⟨.lst [a0, a1, a2, a3, a4, a5, a6, a7, a8, a9, a10, a11, a12], true⟩ := rfl
theorem p_l14 {a0 a1 a2 a3 a4 a5 a6 a7 a8 a9 a10 a11 a12 a13 : D} : gLst [a0, a1, a2, a3, a4, a5, a6, a7, a8, a9, a10, a11, a12, a13] = some ⟨.lst [a0, a1, a2, a3, a4, a5, a6, a7, a8, a9, a10, a11, a12, a13], true⟩ := rfl
theorem p_l15 {a0 a1 a2 a3 a4 a5 a6 a7 a8 a9 a10 a11 a12 a13 a14 : D} : gLst [a0, a1, a2, a3, a4, a5, a6, a7, a8, a9, a10, a11, a12, a13, a14] = some ⟨.lst [a0, a1, a2, a3, a4, a5, a6, a7, a8, a9, a10, a11, a12, a13, a14], true⟩ := rfl
theorem p_l16 {a0 a1 a2 a3 a4 a5 a6 a7 a8 a9 a10 a11 a12 a13 a14 a15 : D} : gLst [a0, a1, a2, a3, a4, a5, a6, a7, a8, a9, a10, a11, a12, a13, a14, a15] = some ⟨.lst [a0, a1, a2, a3, a4, a5, a6, a7, a8, a9, a10, a11, a12, a13, a14, a15], true⟩ := rfl
theorem p_t0 : gTup [] = some ⟨.tup [], false⟩ := rfl
theorem p_t1 {a0 : D} : gTup [a0] = some ⟨.tup [a0], false⟩ := rfl
theorem p_t2 {a0 a1 : D} : gTup [a0, a1] = some ⟨.tup [a0, a1], false⟩ := rfl
theorem p_t3 {a0 a1 a2 : D} : gTup [a0, a1, a2] = some ⟨.tup [a0, a1, a2], false⟩ := rfl
theorem p_t4 {a0 a1 a2 a3 : D} : gTup [a0, a1, a2, a3] = some ⟨.tup [a0, a1, a2, a3], false⟩ := rfl
theorem p_t5 {a0 a1 a2 a3 a4 : D} : gTup [a0, a1, a2, a3, a4] = some ⟨.tup [a0, a1, a2, a3, a4], false⟩ := rfl
theorem p_t6 {a0 a1 a2 a3 a4 a5 : D} : gTup [a0, a1, a2, a3, a4, a5] = some ⟨.tup [a0, a1, a2, a3, a4, a5], false⟩ := rfl
theorem p_t7 {a0 a1 a2 a3 a4 a5 a6 : D} : gTup [a0, a1, a2, a3, a4, a5, a6] = some ⟨.tup [a0, a1, a2, a3, a4, a5, a6], false⟩ := rfl
theorem p_t8 {a0 a1 a2 a3 a4 a5 a6 a7 : D} : gTup [a0, a1, a2, a3, a4, a5, a6, a7] = some ⟨.tup [a0, a1, a2, a3, a4, a5, a6, a7], false⟩ := rfl
/-- n times a list -/
theorem p_mulL {ds : List D} {k : Nat} (hk : (k : Int) < 9223372036854775808) (hl : ds.length * k ≤ LIM) : gMul [.lst ds, .int (k : Nat)] = some ⟨.lst (rep k ds), true⟩ := by
  have : (decide ((-9223372036854775808 : Int) ≤ (k : Nat)) && decide (((k : Nat) : Int) < 9223372036854775808) && Nat.ble (ds.length * ((k : Nat) : Int).toNat) LIM) = true := by
    simp only [Bool.and_eq_true, decide_eq_true_eq]
    exact ⟨⟨by omega, hk⟩, Nat.ble_eq_true_of_le (by simpa using hl)⟩
  unfold gMul
  simp only [Int.toNat_natCast] at this ⊢
  rw [this]; rfl
end L3

set_option maxRecDepth 100000
namespace L3.X
open PySem L2 L3
theorem rt {cal : Nat → Ev R} (T : TakeOk (cal 12)) (G : GroupedOk (cal 15) 20) (EA : ∀ t : Tr, t.dep < 100 → t.joins.length ≤ 1000 → cal 18 [.v t.d] = some (.ok ⟨.tup (t.arms.map .int), false⟩ [.v t.d]))
    (ET : ∀ t : Tr, t.dep < 100 → t.joins.length ≤ 1000 → cal 19 [.v t.d] = some (.ok ⟨.tup (t.tails.map .int), false⟩ [.v t.d])) (EP : PairsOk (cal 17) 100) (ES : SoftOk (cal 20) 100)
    (RE : ArmsOk (cal 2)) (ST : TailsOk (cal 3)) (BR : BrkOk (cal 7)) (OF : OfOk (cal 5)) (OS : OfsOk (cal 6)) (SA : SameOk (cal 14) 100) : RightOk (defEv 1 10 (t22 cal)) 400 := by
  unfold t22
  refine turns_ok' (m := 7) (u := 2) (k := 10) (c := 40) rfl (by decide) ?_
  intro x y z C v J B hl hk
  obtain ⟨s2, s3, s4, s5, s6, s7, s8, rfl, f2, f3, f4, f5, f6, f7, f8⟩ := jk7 hl hk
  obtain ⟨r, x1, z1, q1, q2, X1, e1⟩ := T x y z 16 (C + 39) B (by decide) (by decide)
  obtain ⟨t, x2, z2, g, X2, e2⟩ := G 1 (1 + r) x1 y z1 C (by omega) (by omega) (by decide) (by omega) (X1.less (by omega))
  have hN : 1 + r ≤ 60 := by omega
  obtain ⟨_, _, dp⟩ := g.ends
  have jl := g.cuts.2.2.1
  have hd : t.dep < 90 := by omega
  have ea := EA t (by omega) (by omega)
  have et := ET t (by omega) (by omega)
  have ep := EP t (by omega) (by omega) (by omega)
  have eso := ES t (by omega)
  have b1 := RE t.d t (1 + r) (isTr_d t) g hN
  have b2 := ST t.d t (1 + r) (isTr_d t) g hN
  have b3 := BR t.d t (1 + r) (isTr_d t) g hN
  have b4 := RE t.soft t (1 + r) (isTr_soft t) g hN
  have b5 := ST t.soft t (1 + r) (isTr_soft t) g hN
  have b6 := BR t.soft t (1 + r) (isTr_soft t) g hN
  have o1 := OF (.tup (t.arms.map .int)) t (1 + r) (.tup _) g hN
  have o2 := OF (.lst (t.arms.map .int)) t (1 + r) (.lst _) g hN
  have o3 := OS (.tup (t.tails.map .int)) t (1 + r) (.tup _) g hN
  have o4 := OS (.lst (t.tails.map .int)) t (1 + r) (.lst _) g hN
  obtain ⟨sp1, sp2⟩ := g.sp hN
  have es := sorted_any sp1 (by decide) sp2
  have ll : ∀ ds : List D, ds.length ≤ 20 → ds.length ≤ LIM := fun ds h => Nat.le_trans h (by decide)
  have hrow := rows_len g
  have pa : ∀ n, Pln (n + 2) (.tup (t.arms.map .int)) := fun n => pln_row (Nat.le_trans (show t.arms.length ≤ 1000 by omega) (by decide))
  have pt : ∀ n, Pln (n + 2) (.tup (t.tails.map .int)) := fun n => pln_row (Nat.le_trans (show t.tails.length ≤ 1000 by omega) (by decide))
  have pb : ∀ n, Pln (n + 3) t.brs := fun n => pl_brs g hN
  have m2 : gMul [.lst [.tup (t.arms.map .int), .tup (t.tails.map .int), t.brs], .int 2] = some ⟨.lst [.tup (t.arms.map .int), .tup (t.tails.map .int), t.brs, .tup (t.arms.map .int), .tup (t.tails.map .int), t.brs], true⟩ := p_mulL (k := 2) (by decide) (by show 6 ≤ LIM; decide)
  have m4 : gMul [.lst [t.d], .int 4] = some ⟨.lst [t.d, t.d, t.d, t.d], true⟩ := p_mulL (k := 4) (by decide) (by show 4 ≤ LIM; decide)
  have w1 := SA (.lst [.tup (t.arms.map .int), .tup (t.tails.map .int), t.brs, .tup (t.arms.map .int), .tup (t.tails.map .int), t.brs]) (pl_l (al_cons (pa _) (al_cons (pt _) (al_cons (pb _) (al_cons (pa _) (al_cons (pt _) (al_cons (pb _) al_nil)))))) (ll _ (by simp)))
  have td : Pln 99 t.d := pl_tr (by omega)
  have w2 := SA (.lst [t.d, t.d, t.d, t.d]) (pl_l (al_cons td (al_cons td (al_cons td (al_cons td al_nil)))) (ll _ (by simp)))
  refine ⟨x2, z2, [.v (.int (1 + r)), .v t.d, .v (.tup (t.arms.map .int)), .v (.tup (t.tails.map .int)), .v t.soft, .v t.brs, .v (.lst [t.d, t.d, t.d, t.d])], X2, rfl, ?_, ?_⟩
  · simp only [jk_cons, free_v, true_and]; exact jk_nil
  · show _ = _
    simp (config := { decide := false }) only [k1_ok, k1_ex, k1_no, ret_r, asF_r, asE_r, asI_r, asL_t, as_nil, as_e, as_l, isSet_r, isSet_v, isSet_o, fdR_s, fd_nil, fd_r, fd_l, fdL_v, fdL_o, prC_s, prB_s, prA_r, pr_r, gd_t, sl_r, slK_v, slK_o, k_r, tb_r, tbA_r, tC_s, tB_s, tA_r, t_r, noA_r, not_r, anA_t, anA_f, and_r, orA_t, orA_f, or_r, ifA_t, ifA_f, if_r, anV_t, anV_f, anU_r, andV_r, orV_t, orV_f, orU_r, orV_r, ntV_s, ntU_r, notV_r, tru_b, tru_i, tru_n, tru_t, tru_l, tru_f, free_r, free_u, free_v, free_o, asgK_t, asg_r, asgM_f, asgM_l, asgM_t, acK_s, ac_r, an_r, atL_t, atK_s, at_r, sq_t, sq_l, sq_f, nxK_s, setK_ok, setK_ex, set_r, seq_r, seqK_nx, seqK_rt, seqK_ro, seqK_bk, seqK_ct, seqK_ex, ifs_r, ifK_t, ifK_f, nx_r, bk_r, ct_r, rets_r, retK_ok, retK_ex, rs_r, rsK_v, rsK_o, retN_r, expr_r, exK_ok, exK_ex, crK_s, crL_ok, crL_ex, cr_r, nod_n, nod_1, call_r, ckA_r, callK_r, agR_s, ag_nil, ag_r, ag_l, agL_v, agL_o, ol_nil, ol_r, ol_l, olK_v, olK_o, bk_nil, bkr, bkl, bkK_v, bkK_o, si_r, siA_ok, siA_ex, siE_t, siB_ok, siC_s, siD_s, isOwn_r, isOwn_o, dfA_t, df_r, dfB_nx, dfB_rt, dfB_ex, ba_v, ba_o, ba_n, nm_n, nm_v, nm_o, p_add, p_sub, p_mul, p_mod, p_fdiv, p_neg, p_int, p_intB, p_cmp, p_ixL, p_ixT, p_ixF, p_lenL, p_lenT, p_lenF, p_listT, p_listL, p_tupleL, p_tupleT, List.getElem?_cons_zero, List.getElem?_cons_succ, List.getElem?_nil, List.set_cons_zero, List.set_cons_succ, List.length_cons, List.length_nil, Option.map_some, Option.map_none, List.cons_append, List.nil_append, List.append_nil, Bool.and_true, Bool.true_and, Bool.or_true, Bool.true_or, Bool.and_false, Bool.false_and, Bool.or_false, Bool.false_or, Bool.not_true, Bool.not_false, decide_true, decide_false, List.cons_append, List.nil_append, List.replicate, e1, e2, blt12, if_true, ite_true, f2, f3, f4, f5, f6, f7, f8, par_c, parK_ok, parL_s, parN_s, ea, et, eso, asgM_soft]
    rw [comp_q (t.joins.map L3.d3) (fun d => match d with | .tup [a, _, b] => .tup [a, b] | d => d)]
    · have e : (t.joins.map L3.d3).map (fun d => match d with | .tup [a, _, b] => D.tup [a, b] | d => d) = t.sp.map tupI := by
        simp [L3.d3, Tr.sp, tupI, Function.comp_def]
      rw [e]
      simp (config := { decide := false }) only [k1_ok, k1_ex, k1_no, ret_r, asF_r, asE_r, asI_r, asL_t, as_nil, as_e, as_l, isSet_r, isSet_v, isSet_o, fdR_s, fd_nil, fd_r, fd_l, fdL_v, fdL_o, prC_s, prB_s, prA_r, pr_r, gd_t, sl_r, slK_v, slK_o, k_r, tb_r, tbA_r, tC_s, tB_s, tA_r, t_r, noA_r, not_r, anA_t, anA_f, and_r, orA_t, orA_f, or_r, ifA_t, ifA_f, if_r, anV_t, anV_f, anU_r, andV_r, orV_t, orV_f, orU_r, orV_r, ntV_s, ntU_r, notV_r, tru_b, tru_i, tru_n, tru_t, tru_l, tru_f, free_r, free_u, free_v, free_o, asgK_t, asg_r, asgM_f, asgM_l, asgM_t, acK_s, ac_r, an_r, atL_t, atK_s, at_r, sq_t, sq_l, sq_f, nxK_s, setK_ok, setK_ex, set_r, seq_r, seqK_nx, seqK_rt, seqK_ro, seqK_bk, seqK_ct, seqK_ex, ifs_r, ifK_t, ifK_f, nx_r, bk_r, ct_r, rets_r, retK_ok, retK_ex, rs_r, rsK_v, rsK_o, retN_r, expr_r, exK_ok, exK_ex, crK_s, crL_ok, crL_ex, cr_r, nod_n, nod_1, call_r, ckA_r, callK_r, agR_s, ag_nil, ag_r, ag_l, agL_v, agL_o, ol_nil, ol_r, ol_l, olK_v, olK_o, bk_nil, bkr, bkl, bkK_v, bkK_o, si_r, siA_ok, siA_ex, siE_t, siB_ok, siC_s, siD_s, isOwn_r, isOwn_o, dfA_t, df_r, dfB_nx, dfB_rt, dfB_ex, ba_v, ba_o, ba_n, nm_n, nm_v, nm_o, p_add, p_sub, p_mul, p_mod, p_fdiv, p_neg, p_int, p_intB, p_cmp, p_ixL, p_ixT, p_ixF, p_lenL, p_lenT, p_lenF, p_listT, p_listL, p_tupleL, p_tupleT, List.getElem?_cons_zero, List.getElem?_cons_succ, List.getElem?_nil, List.set_cons_zero, List.set_cons_succ, List.length_cons, List.length_nil, Option.map_some, Option.map_none, List.cons_append, List.nil_append, List.append_nil, Bool.and_true, Bool.true_and, Bool.or_true, Bool.true_or, Bool.and_false, Bool.false_and, Bool.or_false, Bool.false_or, Bool.not_true, Bool.not_false, decide_true, decide_false, es, b1, b2, b3, b4, b5, b6, f6, f7, f8, p_l6, p_l3, p_l4, p_l1, m2, w1, slK_soft, free_soft, (show D.tup (List.map tupI (tsort t.sp)) = t.brs from rfl), o1, o2, o3, o4, m4, w2]

    · exact seq_e (r := ⟨.lst (t.joins.map L3.d3), true⟩) (by simp (config := { decide := false }) only [k1_ok, k1_ex, k1_no, ret_r, asF_r, asE_r, asI_r, asL_t, as_nil, as_e, as_l, isSet_r, isSet_v, isSet_o, fdR_s, fd_nil, fd_r, fd_l, fdL_v, fdL_o, prC_s, prB_s, prA_r, pr_r, gd_t, sl_r, slK_v, slK_o, k_r, tb_r, tbA_r, tC_s, tB_s, tA_r, t_r, noA_r, not_r, anA_t, anA_f, and_r, orA_t, orA_f, or_r, ifA_t, ifA_f, if_r, anV_t, anV_f, anU_r, andV_r, orV_t, orV_f, orU_r, orV_r, ntV_s, ntU_r, notV_r, tru_b, tru_i, tru_n, tru_t, tru_l, tru_f, free_r, free_u, free_v, free_o, asgK_t, asg_r, asgM_f, asgM_l, asgM_t, acK_s, ac_r, an_r, atL_t, atK_s, at_r, sq_t, sq_l, sq_f, nxK_s, setK_ok, setK_ex, set_r, seq_r, seqK_nx, seqK_rt, seqK_ro, seqK_bk, seqK_ct, seqK_ex, ifs_r, ifK_t, ifK_f, nx_r, bk_r, ct_r, rets_r, retK_ok, retK_ex, rs_r, rsK_v, rsK_o, retN_r, expr_r, exK_ok, exK_ex, crK_s, crL_ok, crL_ex, cr_r, nod_n, nod_1, call_r, ckA_r, callK_r, agR_s, ag_nil, ag_r, ag_l, agL_v, agL_o, ol_nil, ol_r, ol_l, olK_v, olK_o, bk_nil, bkr, bkl, bkK_v, bkK_o, si_r, siA_ok, siA_ex, siE_t, siB_ok, siC_s, siD_s, isOwn_r, isOwn_o, dfA_t, df_r, dfB_nx, dfB_rt, dfB_ex, ba_v, ba_o, ba_n, nm_n, nm_v, nm_o, p_add, p_sub, p_mul, p_mod, p_fdiv, p_neg, p_int, p_intB, p_cmp, p_ixL, p_ixT, p_ixF, p_lenL, p_lenT, p_lenF, p_listT, p_listL, p_tupleL, p_tupleT, List.getElem?_cons_zero, List.getElem?_cons_succ, List.getElem?_nil, List.set_cons_zero, List.set_cons_succ, List.length_cons, List.length_nil, Option.map_some, Option.map_none, List.cons_append, List.nil_append, List.append_nil, Bool.and_true, Bool.true_and, Bool.or_true, Bool.true_or, Bool.and_false, Bool.false_and, Bool.or_false, Bool.false_or, Bool.not_true, Bool.not_false, decide_true, decide_false, ep]) rfl
    · rfl
    · rw [List.length_map]; exact Nat.le_trans (show t.joins.length ≤ 1000 by omega) (by decide)
    · intro q hq
      obtain ⟨p, hp, rfl⟩ := List.mem_map.mp hq
      have l2 : ([.int p.1, .int p.2.2] : List D).length ≤ LIM := by show 2 ≤ LIM; decide
      rw [item_r]
      simp (config := { decide := false }) only [k1_ok, k1_ex, k1_no, ret_r, asF_r, asE_r, asI_r, asL_t, as_nil, as_e, as_l, isSet_r, isSet_v, isSet_o, fdR_s, fd_nil, fd_r, fd_l, fdL_v, fdL_o, prC_s, prB_s, prA_r, pr_r, gd_t, sl_r, slK_v, slK_o, k_r, tb_r, tbA_r, tC_s, tB_s, tA_r, t_r, noA_r, not_r, anA_t, anA_f, and_r, orA_t, orA_f, or_r, ifA_t, ifA_f, if_r, anV_t, anV_f, anU_r, andV_r, orV_t, orV_f, orU_r, orV_r, ntV_s, ntU_r, notV_r, tru_b, tru_i, tru_n, tru_t, tru_l, tru_f, free_r, free_u, free_v, free_o, asgK_t, asg_r, asgM_f, asgM_l, asgM_t, acK_s, ac_r, an_r, atL_t, atK_s, at_r, sq_t, sq_l, sq_f, nxK_s, setK_ok, setK_ex, set_r, seq_r, seqK_nx, seqK_rt, seqK_ro, seqK_bk, seqK_ct, seqK_ex, ifs_r, ifK_t, ifK_f, nx_r, bk_r, ct_r, rets_r, retK_ok, retK_ex, rs_r, rsK_v, rsK_o, retN_r, expr_r, exK_ok, exK_ex, crK_s, crL_ok, crL_ex, cr_r, nod_n, nod_1, call_r, ckA_r, callK_r, agR_s, ag_nil, ag_r, ag_l, agL_v, agL_o, ol_nil, ol_r, ol_l, olK_v, olK_o, bk_nil, bkr, bkl, bkK_v, bkK_o, si_r, siA_ok, siA_ex, siE_t, siB_ok, siC_s, siD_s, isOwn_r, isOwn_o, dfA_t, df_r, dfB_nx, dfB_rt, dfB_ex, ba_v, ba_o, ba_n, nm_n, nm_v, nm_o, p_add, p_sub, p_mul, p_mod, p_fdiv, p_neg, p_int, p_intB, p_cmp, p_ixL, p_ixT, p_ixF, p_lenL, p_lenT, p_lenF, p_listT, p_listL, p_tupleL, p_tupleT, List.getElem?_cons_zero, List.getElem?_cons_succ, List.getElem?_nil, List.set_cons_zero, List.set_cons_succ, List.length_cons, List.length_nil, Option.map_some, Option.map_none, List.cons_append, List.nil_append, List.append_nil, Bool.and_true, Bool.true_and, Bool.or_true, Bool.true_or, Bool.and_false, Bool.false_and, Bool.or_false, Bool.false_or, Bool.not_true, Bool.not_false, decide_true, decide_false, L3.d3, wipeS, itA_s, yes_r, itB_t, p_tup l2, at0, at2]
      exact itC_ok ⟨rfl, rfl⟩
theorem k_right : RightOk (evD ds 149 22) 400 := rt (cal := evD ds 148) (k_take 147) (fun a b x y z c h1 h2 => k_grp 147 a b x y z c h1 (by omega)) (fun t h hl => k_arms 146 t (by omega) (by omega) hl) (fun t h hl => k_tails 146 t (by omega) (by omega) hl)
  (fun t h h2 h3 => k_pairs 147 t (by omega) h2 h3) (fun t h => k_soft 147 t (by omega)) (k_reach 145) (k_start 145) (k_brk 145) (k_of 147) (k_ofs 143) (fun d h => k_same 147 d (pln_le (by omega) h))
theorem key : evD ds 150 23 = defEv 1 3 (tLaw (evD ds 149 21) (evD ds 149 13) (evD ds 149 22) (evD ds 149 11) ((3 : Nat) : Int)) := by kernel_rfl
theorem ev : ∀ ns : List Int, ns.length ≤ 63 → ∃ b ρ', evD ds 150 23 [.v (.fls (ns.map .int))] = some (.ok ⟨.bl true, b⟩ ρ') := fun ns hn => by
  rw [key]
  exact law_ok (m := 3) (c := 400) hand k_cells (by decide) k_box (by decide) k_right ns hn
end L3.X

set_option maxRecDepth 100000
namespace L3.X
open PySem L2 L3
theorem walk {q : Program} {loose : List Str} {XP : (Str → Option Value) → Heap → Prop} {YP : World → Heap → Prop} {r : DefRec} {K : Params → Frag} (hdf : r.params.defaults = []) (hnm : r.name = "law") (hY : ∀ (w : World) (h : Heap), YP w h → (K w.params).In h)
    (hA : ∀ (w : World) (mg : Str → Option Value) (h : Heap), (K w.params).In h → h.Ns mainGlobals mg → ∀ e ∈ ds, ∃ f fd, DfAt (K w.params) mg e f fd)
    (hE : ∀ (w : World) (mg : Str → Option Value) (h : Heap), (K w.params).In h → h.Ns mainGlobals mg → Exs (K w.params) mg tb)
    (hB : ∀ (w : World) (mg : Str → Option Value) (h : Heap), (K w.params).In h → h.Ns mainGlobals mg → ∀ e ∈ ds, ∀ y, e.bl.contains y = true → mg y = none) :
    PySem.W.WalkO q loose XP YP PySem.Challenge.rw_regroups_k01_reaches_and_starts.row.toRowW r [] (fun f vs => PySem.call f vs) :=
  the_end (l := PySem.Challenge.rw_regroups_k01_reaches_and_starts) (n := 150) (id := 23) (d := d23) (x := "_law_script") rfl hdf ⟨rfl, by decide, by decide⟩ hC hT rfl rfl hnm hY hA hE hB ev
end L3.X
open PySem PySem.W PyProof.Rows
set_option maxRecDepth 100000 in
set_option maxHeartbeats 0 in
theorem PySem.Challenge.cw_regroups_k01_reaches_and_starts_holds : PySem.Challenge.rw_regroups_k01_reaches_and_starts.Holds := by
  w_on; o_law; k_head; (case hw => w_witness2)
  k_fill
  refine L3.X.walk rfl rfl (fun w h Y => PySem.W.kIn_of Y) ?hA ?hE ?hB
  case hA =>
    intro w mg h KX G
    refine L3.X.all_in ?q0 ?q1 ?q2 ?q3 ?q4 ?q5 ?q6 ?q7 ?q8 ?q9 ?q10 ?q11 ?q12 ?q13 ?q14 ?q15 ?q16 ?q17 ?q18 ?q19 ?q20 ?q21 ?q22 ?q23
    case q0 =>
      refine' L3.X.a0 KX G ?a ?l ?c ?k
      (case a => k_is); (case l => k_is); (case c => k_is); (case k => k_is)
    case q1 =>
      refine' L3.X.a1 KX G ?a ?l ?c ?k
      (case a => k_is); (case l => k_is); (case c => k_is); (case k => k_is)
    case q2 =>
      refine' L3.X.a2 KX G ?a ?l ?c ?k
      (case a => k_is); (case l => k_is); (case c => k_is); (case k => k_is)
    case q3 =>
      refine' L3.X.a3 KX G ?a ?l ?c ?k
      (case a => k_is); (case l => k_is); (case c => k_is); (case k => k_is)
    case q4 =>
      refine' L3.X.a4 KX G ?a ?l ?c ?k
      (case a => k_is); (case l => k_is); (case c => k_is); (case k => k_is)
    case q5 =>
      refine' L3.X.a5 KX G ?a ?l ?c ?k
      (case a => k_is); (case l => k_is); (case c => k_is); (case k => k_is)
    case q6 =>
      refine' L3.X.a6 KX G ?a ?l ?c ?k
      (case a => k_is); (case l => k_is); (case c => k_is); (case k => k_is)
    case q7 =>
      refine' L3.X.a7 KX G ?a ?l ?c ?k
      (case a => k_is); (case l => k_is); (case c => k_is); (case k => k_is)
    case q8 =>
      refine' L3.X.a8 KX G ?a ?l ?c ?k
      (case a => k_is); (case l => k_is); (case c => k_is); (case k => k_is)
    case q9 =>
      refine' L3.X.a9 KX G ?a ?l ?c ?k
      (case a => k_is); (case l => k_is); (case c => k_is); (case k => k_is)
    case q10 =>
      refine' L3.X.a10 KX G ?a ?l ?c ?k
      (case a => k_is); (case l => k_is); (case c => k_is); (case k => k_is)
    case q11 =>
      refine' L3.X.a11 KX G ?a ?l ?c ?k
      (case a => k_is); (case l => k_is); (case c => k_is); (case k => k_is)
    case q12 =>
      refine' L3.X.a12 KX G ?a ?l ?c ?k
      (case a => k_is); (case l => k_is); (case c => k_is); (case k => k_is)
    case q13 =>
      refine' L3.X.a13 KX G ?a ?l ?c ?k
      (case a => k_is); (case l => k_is); (case c => k_is); (case k => k_is)
    case q14 =>
      refine' L3.X.a14 KX G ?a ?l ?c ?k
      (case a => k_is); (case l => k_is); (case c => k_is); (case k => k_is)
    case q15 =>
      refine' L3.X.a15 KX G ?a ?l ?c ?k
      (case a => k_is); (case l => k_is); (case c => k_is); (case k => k_is)
    case q16 =>
      refine' L3.X.a16 KX G ?a ?l ?c ?k
      (case a => k_is); (case l => k_is); (case c => k_is); (case k => k_is)
    case q17 =>
      refine' L3.X.a17 KX G ?a ?l ?c ?k
      (case a => k_is); (case l => k_is); (case c => k_is); (case k => k_is)
    case q18 =>
      refine' L3.X.a18 KX G ?a ?l ?c ?k
      (case a => k_is); (case l => k_is); (case c => k_is); (case k => k_is)
    case q19 =>
      refine' L3.X.a19 KX G ?a ?l ?c ?k
      (case a => k_is); (case l => k_is); (case c => k_is); (case k => k_is)
    case q20 =>
      refine' L3.X.a20 KX G ?a ?l ?c ?k
      (case a => k_is); (case l => k_is); (case c => k_is); (case k => k_is)
    case q21 =>
      refine' L3.X.a21 KX G ?a ?l ?c ?k
      (case a => k_is); (case l => k_is); (case c => k_is); (case k => k_is)
    case q22 =>
      refine' L3.X.a22 KX G ?a ?l ?c ?k
      (case a => k_is); (case l => k_is); (case c => k_is); (case k => k_is)
    case q23 =>
      refine' L3.X.a23 KX G ?a ?l ?c ?k
      (case a => k_is); (case l => k_is); (case c => k_is); (case k => k_is)

  case hE =>
    intro w mg h KX G
    refine' L3.X.exs_in KX G 
  case hB =>
    intro w mg h KX G
    refine L3.X.bl_in ?z0 ?z1 ?z2 ?z3 ?z4 ?z5 ?z6 ?z7 ?z8 ?z9 ?z10 ?z11 ?z12
    case z0 =>
      refine' PySem.W.mg_none_of KX G ?z
      (case z => k_is)
    case z1 =>
      refine' PySem.W.mg_none_of KX G ?z
      (case z => k_is)
    case z2 =>
      refine' PySem.W.mg_none_of KX G ?z
      (case z => k_is)
    case z3 =>
      refine' PySem.W.mg_none_of KX G ?z
      (case z => k_is)
    case z4 =>
      refine' PySem.W.mg_none_of KX G ?z
      (case z => k_is)
    case z5 =>
      refine' PySem.W.mg_none_of KX G ?z
      (case z => k_is)
    case z6 =>
      refine' PySem.W.mg_none_of KX G ?z
      (case z => k_is)
    case z7 =>
      refine' PySem.W.mg_none_of KX G ?z
      (case z => k_is)
    case z8 =>
      refine' PySem.W.mg_none_of KX G ?z
      (case z => k_is)
    case z9 =>
      refine' PySem.W.mg_none_of KX G ?z
      (case z => k_is)
    case z10 =>
      refine' PySem.W.mg_none_of KX G ?z
      (case z => k_is)
    case z11 =>
      refine' PySem.W.mg_none_of KX G ?z
      (case z => k_is)
    case z12 =>
      refine' PySem.W.mg_none_of KX G ?z
      (case z => k_is)

