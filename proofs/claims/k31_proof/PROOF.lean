import PyProof.Rows.All
import Wide.All
import OpenK.AllK
import Wide.FinOn
import PyProof.EqAt
import PyProof.EqKinds
import PyProof.TupleCall
import KE.BitLaws
import KE.KSortTupG
import KE.KTryMore
import OpenK.KOwn
import KE.KIsNot
import PyProof.ExcAttrAll.ValueError
import PySem.Challenge.RW_likewebs_k31_namings_that_fit
set_option Elab.async false
set_option linter.all false
set_option maxRecDepth 100000
namespace Nm
def upTo (n : Nat) : List Int := (List.range n).map fun (i : Nat) => (i : Int)
theorem upTo_length (n : Nat) : (upTo n).length = n := by simp [upTo]
theorem mem_upTo {n : Nat} {x : Int} : x ∈ upTo n ↔ 0 ≤ x ∧ x < n := by
  simp only [upTo, List.mem_map, List.mem_range]
  constructor
  · rintro ⟨a, h, rfl⟩; omega
  · rintro ⟨h1, h2⟩; exact ⟨x.toNat, by omega, by omega⟩
theorem upTo_nodup (n : Nat) : (upTo n).Nodup := by
  unfold upTo
  rw [List.Nodup, List.pairwise_map]
  exact List.nodup_range.imp fun h e => h (by omega)
def thenF (xs ys : List Int) : List Int := xs.map fun x => ys.getD x.toNat 0
def backF (xs : List Int) : List Int := (upTo xs.length).map fun c => (xs.idxOf c : Int)
def IsN (n : Nat) (xs : List Int) : Prop := xs.Perm (upTo n)
theorem IsN.length {n : Nat} {xs : List Int} (h : IsN n xs) : xs.length = n := h.length_eq.trans (upTo_length n)
theorem IsN.mem {n : Nat} {xs : List Int} (h : IsN n xs) {x : Int} : x ∈ xs ↔ 0 ≤ x ∧ x < n := (List.Perm.mem_iff h).trans mem_upTo
theorem IsN.nodup {n : Nat} {xs : List Int} (h : IsN n xs) : xs.Nodup := h.nodup_iff.mpr (upTo_nodup n)
theorem IsN.upTo (n : Nat) : IsN n (upTo n) := List.Perm.refl _
theorem then_length (xs ys : List Int) : (thenF xs ys).length = xs.length := by simp [thenF]
theorem back_length (xs : List Int) : (backF xs).length = xs.length := by simp [backF, upTo_length]
theorem upTo_then {n : Nat} {g : List Int} (h : g.length = n) : thenF (upTo n) g = g := by
  apply List.ext_getElem
  · rw [then_length, upTo_length, h]
  · intro i h1 h2
    simp [thenF, upTo, h2]
theorem IsN.then {n : Nat} {f g : List Int} (hf : IsN n f) (hg : IsN n g) : IsN n (thenF f g) := by
  have h1 : (thenF f g).Perm (thenF (Nm.upTo n) g) := List.Perm.map _ hf
  rw [upTo_then hg.length] at h1
  exact h1.trans hg
theorem idx_get {f : List Int} (hn : f.Nodup) : f.map (fun x => (f.idxOf x : Int)) = upTo f.length := by
  apply List.ext_getElem
  · simp [upTo_length]
  · intro i h1 h2
    have hi : i < f.length := by simpa using h1
    simp only [List.getElem_map, upTo, List.getElem_range]
    have := hn.idxOf_getElem i hi
    omega
theorem IsN.back {n : Nat} {f : List Int} (hf : IsN n f) : IsN n (backF f) := by
  have h1 : (backF f).Perm (f.map (fun x => (f.idxOf x : Int))) := List.Perm.map _ (by rw [hf.length]; exact hf.symm)
  rw [idx_get hf.nodup, hf.length] at h1
  exact h1
theorem back_get {f : List Int} {c : Nat} (h : c < f.length) : (backF f)[c]? = some (f.idxOf (c : Int) : Int) := by
  simp [backF, upTo, h]
end Nm
namespace L2
open PySem PySem.Spec PyProof.Rows
abbrev Key := Sum Int Str
def keyIs : Key → Value → Bool
  | .inl k, v => Value.isInt k v
  | .inr x, v => Value.isStrOf x v
def keyH (w : World) : Key → Int
  | .inl k => hashInt k
  | .inr x => hashStr w x
theorem keyIs_shape : ∀ {k : Key} {v : Value}, keyIs k v = true → (∃ i t, k = Sum.inl i ∧ v = Value.int i t) ∨ (∃ x t, k = Sum.inr x ∧ v = Value.str x t)
  | .inl i, v, h => by
    obtain ⟨t, e⟩ := Value.isInt_shape (k := i) (v := v) h
    exact .inl ⟨i, t, rfl, e⟩
  | .inr x, v, h => by
    obtain ⟨t, e⟩ := Value.isStrOf_shape (x := x) (v := v) h
    exact .inr ⟨x, t, rfl, e⟩
theorem keyIs_int (i : Int) (t : Tok) : keyIs (.inl i) (.int i t) = true := by simp [keyIs, Value.isInt]
theorem keyIs_str (x : Str) (t : Tok) : keyIs (.inr x) (.str x t) = true := by simp [keyIs, Value.isStrOf]
theorem key_ll (a b : Int) : decide ((Sum.inl a : Key) = Sum.inl b) = (a == b) := by
  by_cases e : a = b
  · subst e; simp
  · have h : ¬ (Sum.inl a : Key) = Sum.inl b := fun q => e (Sum.inl.inj q)
    rw [decide_eq_false h]
    exact (beq_eq_false_iff_ne.mpr e).symm
theorem key_rr (a b : Str) : decide ((Sum.inr a : Key) = Sum.inr b) = decide (a = b) := by
  by_cases e : a = b
  · subst e; simp
  · have h : ¬ (Sum.inr a : Key) = Sum.inr b := fun q => e (Sum.inr.inj q)
    rw [decide_eq_false h, decide_eq_false e]
theorem key_lr (a : Int) (b : Str) : decide ((Sum.inl a : Key) = Sum.inr b) = false := decide_eq_false (fun q => nomatch q)
theorem key_rl (a : Str) (b : Int) : decide ((Sum.inr a : Key) = Sum.inl b) = false := decide_eq_false (fun q => nomatch q)
def mixKind (prog : Program) (w : World) : PySem.KeyKind prog w Key where
  is := keyIs
  hash := keyH w
  inj := fun v a b ha hb => by
    rcases keyIs_shape ha with ⟨i, t, rfl, rfl⟩ | ⟨x, t, rfl, rfl⟩
    · rcases keyIs_shape hb with ⟨j, u, rfl, e⟩ | ⟨y, u, rfl, e⟩
      · injection e with e1 _; rw [e1]
      · exact nomatch e
    · rcases keyIs_shape hb with ⟨j, u, rfl, e⟩ | ⟨y, u, rfl, e⟩
      · exact nomatch e
      · injection e with e1 _; rw [e1]
  byValue := fun k v h => by
    rcases keyIs_shape h with ⟨i, t, rfl, rfl⟩ | ⟨x, t, rfl, rfl⟩ <;> rfl
  pyHash := fun hv h => by
    rcases keyIs_shape hv with ⟨i, t, rfl, rfl⟩ | ⟨x, t, rfl, rfl⟩
    · exact wpAny_pyHash_int h
    · exact wpAny_pyHash_str h
  eqBool := fun hu hv h => by
    rcases keyIs_shape hu with ⟨i, t, rfl, rfl⟩ | ⟨x, t, rfl, rfl⟩
    · rcases keyIs_shape hv with ⟨j, u, rfl, rfl⟩ | ⟨y, u, rfl, rfl⟩
      · rw [key_ll] at h; exact wpAny_eqBool_int h
      · rw [key_lr] at h; exact SeqAt.EqAt.int_str i t y u _ _ _ _ h
    · rcases keyIs_shape hv with ⟨j, u, rfl, rfl⟩ | ⟨y, u, rfl, rfl⟩
      · rw [key_rl] at h; exact SeqAt.EqAt.str_int x t j u _ _ _ _ h
      · rw [key_rr] at h; exact wpAny_eqBool_str h
  «strs» := fun k x t v h => by
    rcases keyIs_shape h with ⟨i, u, rfl, e⟩ | ⟨y, u, rfl, e⟩
    · exact nomatch e
    · injection e with e1 _
      subst e1
      cases v <;> rfl
theorem mixKind_is (prog : Program) (w : World) (k : Key) (v : Value) : (mixKind prog w).is k v = keyIs k v := rfl
theorem mixKind_int (prog : Program) (w : World) (i : Int) (t : Tok) : (mixKind prog w).is (.inl i) (.int i t) = true := keyIs_int i t
theorem mixKind_str (prog : Program) (w : World) (x : Str) (t : Tok) : (mixKind prog w).is (.inr x) (.str x t) = true := keyIs_str x t
end L2
namespace L2
open PySem PySem.Spec PyProof.Rows
inductive V where
  | non | bl (b : Bool) | int (i : Int) | str (x : Str) | byt (b : Array UInt8) | flt (b : UInt64) | ref (a : Addr) | ty (n : String)
  deriving DecidableEq
def RelV : V → Value → Prop
  | .non, u => u = Value.none
  | .bl b, u => u = Value.bool b
  | .int i, u => ∃ t, u = Value.int i t
  | .str x, u => ∃ t, u = Value.str x t
  | .byt b, u => ∃ t, u = Value.bytes b t
  | .flt b, u => ∃ t, u = Value.float b t
  | .ref a, u => u = Value.ref a
  | .ty n, u => u = Value.type n
abbrev Vals : List V → List Value → Prop := Paired RelV
theorem Vals.length {xs : List V} {us : List Value} (r : Vals xs us) : xs.length = us.length := Paired.length r
theorem Vals.get : ∀ {xs : List V} {us : List Value} {i : Nat} {x : V}, Vals xs us → xs[i]? = some x → ∃ u, us[i]? = some u ∧ RelV x u
  | _, _, _, _, .nil, e => by simp at e
  | _, _, 0, _, .cons r _, e => by simp at e; subst e; exact ⟨_, rfl, r⟩
  | _, _, i + 1, x, .cons _ t, e => by
    obtain ⟨u, h1, h2⟩ := Vals.get (i := i) (x := x) t (by simpa using e)
    exact ⟨u, by simpa using h1, h2⟩
theorem Vals.set {x : V} {u : Value} (r : RelV x u) : ∀ {xs : List V} {us : List Value} (i : Nat), Vals xs us → Vals (xs.set i x) (us.set i u)
  | _, _, _, .nil => .nil
  | _, _, 0, .cons _ t => .cons r t
  | _, _, i + 1, .cons q t => .cons q (Vals.set r i t)
theorem Vals.append : ∀ {xs ys : List V} {us ws : List Value}, Vals xs us → Vals ys ws → Vals (xs ++ ys) (us ++ ws)
  | _, _, _, _, .nil, s => s
  | _, _, _, _, .cons r t, s => .cons r (Vals.append t s)
theorem Vals.take : ∀ {xs : List V} {us : List Value} (n : Nat), Vals xs us → Vals (xs.take n) (us.take n)
  | _, _, 0, _ => .nil
  | _, _, _ + 1, .nil => .nil
  | _, _, n + 1, .cons r t => .cons r (Vals.take n t)
theorem Vals.drop : ∀ {xs : List V} {us : List Value} (n : Nat), Vals xs us → Vals (xs.drop n) (us.drop n)
  | _, _, 0, r => r
  | _, _, _ + 1, .nil => .nil
  | _, _, n + 1, .cons _ t => Vals.drop n t
def RelO : Option V → Option Value → Prop
  | some v, some u => RelV v u
  | none, none => True
  | _, _ => False
def KV {κ : Type} : List (κ × V) → List (κ × Value) → Prop := Paired fun (p : κ × V) (q : κ × Value) => p.1 = q.1 ∧ RelV p.2 q.2
def kV : Key → V
  | .inl i => .int i
  | .inr x => .str x
inductive HO where
  /-- a list -/
  | lst (xs : List V)
  /-- a tuple (never changes) -/
  | tup (xs : List V)
  /-- a dict whose keys are ints and texts; one whose keys are tuples of ints and texts (the empty one is both) -/
  | dK (kvs : List (Key × V)) | dT (kvs : List (List Key × V))
  /-- a set of ints: its members, its size -/
  | set (S : Int → Bool) (n : Nat)
  /-- an instance of the class at C, its dict at dx, its attributes -/
  | ins (C dx : Addr) (fs : List (Str × V))
  /-- the dict of the instance at x -/
  | own (x : Addr)
  /-- the dict of an exception -/
  | xd (fs : List (Str × V))
  /-- a bound method, f of x -/
  | met (f x : Addr)
  /-- a range object lo, lo + 1, .. below hi -/
  | rng (lo hi : Int)
  /-- a thing that is known to the object (the script; a dict while a loop walks it): read, never written while it is so -/
  | frz (o : Obj) (u : HO)
  /-- a code object's table -/
  | tbl (ps : Array Value)
  /-- any other thing, by what is true of its one object (a def of one's own: SetO a S n := HO.ext fun h => ..) -/
  | ext (φ : Heap → Prop)
abbrev Hp := Addr → Option HO
def upd (H : Hp) (a : Addr) (o : HO) : Hp := fun b => if b = a then some o else H b
theorem upd_same {H : Hp} {a : Addr} {o : HO} : upd H a o a = some o := by unfold upd; rw [if_pos rfl]
theorem upd_ne {H : Hp} {a b : Addr} {o : HO} (h : b ≠ a) : upd H a o b = H b := by unfold upd; rw [if_neg h]
theorem ne_of {H : Hp} {a b : Addr} {o u : HO} (h : H a = some o) (h' : H b = some u) (d : o ≠ u) : a ≠ b := by
  intro e; subst e; rw [h] at h'; exact d (Option.some.inj h')
theorem ne_of_none {H : Hp} {a b : Addr} {o : HO} (h : H a = some o) (h' : H b = none) : a ≠ b := by
  intro e; subst e; rw [h] at h'; cases h'
def TupO (h : Heap) (a : Addr) (items : Array Value) : Prop := ∃ o, h.get? a = some o ∧ o.cls = .type "tuple" ∧ o.dict = none ∧ ∃ n, o.data = .seq items n
theorem TupO.isTup {h : Heap} {a : Addr} {items : Array Value} (x : TupO h a items) : IsTup h a items := let ⟨o, e, c, _, n, d⟩ := x; ⟨o, e, c, n, d⟩
theorem TupO.lt {h : Heap} {a : Addr} {items : Array Value} (x : TupO h a items) : a < h.objs.size := let ⟨_, e, _⟩ := x; Heap.lt_size e
theorem TupO.new (h : Heap) (items : Array Value) : TupO (h.push { cls := .type "tuple", data := .seq items }) h.objs.size items := ⟨_, Heap.get?_push_size _ rfl, rfl, rfl, _, rfl⟩
section
variable (P : Program) (w : World)
def ObjOk (H : Hp) (h : Heap) (a : Addr) : HO → Prop
  | .lst xs => xs.length ≤ sizeLine ∧ ∃ (its : List Value) (n : Nat), Vals xs its ∧ h.get? a = some { cls := .type "list", data := .seq its.toArray n }
  | .tup xs => xs.length ≤ sizeLine ∧ ∃ its : List Value, Vals xs its ∧ TupO h a its.toArray
  | .dK kvs => kvs.length ≤ sizeLine ∧ (a == sysModules) = false ∧ ∃ vs, KV kvs vs ∧ h.DictOf (mixKind P w) a vs
  | .dT kvs => kvs.length ≤ sizeLine ∧ (a == sysModules) = false ∧ ∃ xs : List (List Key × Addr × Value),
      Paired (fun (p : List Key × V) (q : List Key × Addr × Value) => p.1 = q.1 ∧ H q.2.1 = some (.tup (p.1.map kV)) ∧ RelV p.2 q.2.2) kvs xs ∧
      ∃ o es ep, h.get? a = some o ∧ o.ExactDict ∧ o.data = .dict es ep ∧ es.toList = xs.map (entryOfKey (tupleKind (mixKind P w))) ∧ (xs.map (·.1)).Nodup
  | .set S n => h.SetOf (intKind P w) a S n
  | .ins C dx fs => H dx = some (.own a) ∧ fs.length ≤ 1000 ∧ dx ≠ a ∧ h.get? a = some (PySem.W.instObj C dx) ∧
      ∃ mA, h.Ns1 dx mA ∧ (∀ f, RelO (fs.lookup f) (mA f)) ∧ PySem.Within mA (fs.map (·.1))
  | .own _ => ∃ o, h.get? a = some o
  | .xd fs => ∃ mA, h.Ns1 a mA ∧ ∀ f, RelO (fs.lookup f) (mA f)
  | .rng lo hi => ∃ t u v, h.get? a = some { cls := .type "range", data := .fields #[.int lo t, .int hi u, .int 1 v] }
  | .frz o u => h.get? a = some o ∧ ObjOk H h a u
  | .tbl ps => h.get? a = some { cls := .none, data := .fields ps }
  | .met f x => h.get? a = some (PySem.W.methodObj (.ref f) (.ref x))
  | .ext φ => φ h ∧ (∃ o, h.get? a = some o) ∧ ∀ h1 h2 : Heap, φ h1 → (∀ o, h1.get? a = some o → h2.get? a = some o) → φ h2
def HOk (H : Hp) (h : Heap) : Prop := ∀ a o, H a = some o → ObjOk P w H h a o
end
section
variable {P : Program} {w : World} {H H' : Hp} {h h' : Heap} {a : Addr} {o : HO}
theorem ObjOk.lt (x : ObjOk P w H h a o) : a < h.objs.size := by
  cases o with
  | lst xs => obtain ⟨_, _, _, _, e⟩ := x; exact Heap.lt_size e
  | tup xs => obtain ⟨_, _, _, p⟩ := x; exact p.lt
  | dK kvs => obtain ⟨_, _, _, _, o, _, _, e, _⟩ := x; exact Heap.lt_size e
  | dT kvs => obtain ⟨_, _, _, _, o, _, _, e, _⟩ := x; exact Heap.lt_size e
  | set S n => obtain ⟨o, _, _, _, e, _⟩ := x; exact Heap.lt_size e
  | ins C dx fs => obtain ⟨_, _, _, e, _⟩ := x; exact Heap.lt_size e
  | own y => obtain ⟨_, e⟩ := x; exact Heap.lt_size e
  | xd fs => obtain ⟨_, ⟨_, _, _, e, _⟩, _⟩ := x; exact Heap.lt_size e
  | rng lo hi => obtain ⟨_, _, _, e⟩ := x; exact Heap.lt_size e
  | frz ob u => obtain ⟨e, _⟩ := x; exact Heap.lt_size e
  | tbl ps => exact Heap.lt_size (show h.get? a = some _ from x)
  | met f y => exact Heap.lt_size (show h.get? a = some _ from x)
  | ext φ => obtain ⟨_, ⟨_, e⟩, _⟩ := x; exact Heap.lt_size e
theorem Paired.mapP {α β : Type} {F G : α → β → Prop} : ∀ {l₁ : List α} {l₂ : List β}, Paired F l₁ l₂ → (∀ a b, F a b → G a b) → Paired G l₁ l₂
  | _, _, .nil, _ => .nil
  | _, _, .cons r t, f => .cons (f _ _ r) (Paired.mapP t f)
theorem ObjOk.stay (x : ObjOk P w H h a o) (k : ∀ b u, (b = a ∨ H b = some (.own a)) → h.get? b = some u → h'.get? b = some u)
    (ho : ∀ b, H b = some (.own a) → H' b = some (.own a)) (ht : ∀ b xs, H b = some (.tup xs) → H' b = some (.tup xs)) : ObjOk P w H' h' a o := by
  induction o with
  | lst xs => obtain ⟨z, its, n, r, e⟩ := x; exact ⟨z, its, n, r, k _ _ (.inl rfl) e⟩
  | tup xs => obtain ⟨z, its, r, ob, e, c⟩ := x; exact ⟨z, its, r, ob, k _ _ (.inl rfl) e, c⟩
  | dK kvs => obtain ⟨z, y, vs, r, ob, es, ep, e, c⟩ := x; exact ⟨z, y, vs, r, ob, es, ep, k _ _ (.inl rfl) e, c⟩
  | dT kvs =>
    obtain ⟨z, y, xs, r, ob, es, ep, e, c⟩ := x
    exact ⟨z, y, xs, Paired.mapP r fun p q z => ⟨z.1, ht _ _ z.2.1, z.2.2⟩, ob, es, ep, k _ _ (.inl rfl) e, c⟩
  | set S n => obtain ⟨ob, es, ep, t, e, c⟩ := x; exact ⟨ob, es, ep, t, k _ _ (.inl rfl) e, c⟩
  | ins C dx fs =>
    obtain ⟨d, z, ne, e, mA, ⟨od, es, ep, e2, c⟩, r⟩ := x
    exact ⟨ho _ d, z, ne, k _ _ (.inl rfl) e, mA, ⟨od, es, ep, k _ _ (.inr d) e2, c⟩, r⟩
  | own y => obtain ⟨ob, e⟩ := x; exact ⟨ob, k _ _ (.inl rfl) e⟩
  | xd fs => obtain ⟨mA, ⟨od, es, ep, e, c⟩, r⟩ := x; exact ⟨mA, ⟨od, es, ep, k _ _ (.inl rfl) e, c⟩, r⟩
  | rng lo hi => obtain ⟨t, u, v, e⟩ := x; exact ⟨t, u, v, k _ _ (.inl rfl) e⟩
  | frz ob u ih => obtain ⟨e, q⟩ := x; exact ⟨k _ _ (.inl rfl) e, ih q⟩
  | tbl ps =>
    have e : h.get? a = some { cls := .none, data := .fields ps } := x
    show h'.get? a = some { cls := .none, data := .fields ps }
    exact k a _ (.inl rfl) e
  | met f y =>
    have e : h.get? a = some (PySem.W.methodObj (.ref f) (.ref y)) := x
    show h'.get? a = some (PySem.W.methodObj (.ref f) (.ref y))
    exact k a _ (.inl rfl) e
  | ext φ => obtain ⟨p, ⟨o, e⟩, st⟩ := x; exact ⟨st _ _ p fun o q => k _ _ (.inl rfl) q, ⟨o, k _ _ (.inl rfl) e⟩, st⟩
theorem HOk.lt (x : HOk P w H h) (e : H a = some o) : a < h.objs.size := (x a o e).lt
theorem HOk.fresh (x : HOk P w H h) (e : h.objs.size ≤ a) : H a = none := by
  cases q : H a with
  | none => rfl
  | some u => exact absurd (Nat.lt_of_lt_of_le (x.lt q) e) (Nat.lt_irrefl _)
theorem HOk.kept (x : HOk P w H h) (k : ∀ b u, h.get? b = some u → h'.get? b = some u) : HOk P w H h' := fun a o e =>
  (x a o e).stay (fun b u _ q => k b u q) (fun _ q => q) fun _ _ q => q
theorem HOk.laid (x : HOk P w H h) (k : ∀ b u, h.get? b = some u → h'.get? b = some u) (hp : h.objs.size ≤ a) (new : ObjOk P w (upd H a o) h' a o) : HOk P w (upd H a o) h' := fun b u e => by
  have hn := x.fresh hp
  by_cases hb : b = a
  · subst hb; rw [upd_same] at e; cases e; exact new
  · rw [upd_ne hb] at e
    exact (x b u e).stay (fun c v _ q => k c v q) (fun c q => by rw [upd_ne (ne_of_none q hn)]; exact q) fun c xs q => by rw [upd_ne (ne_of_none q hn)]; exact q
end
def Rd (H : Hp) (a : Addr) (u : HO) : Prop := H a = some u ∨ ∃ o, H a = some (.frz o u)
theorem Rd.of {H : Hp} {a : Addr} {u : HO} (h : H a = some u) : Rd H a u := .inl h
theorem Rd.ok {P : Program} {w : World} {H : Hp} {h : Heap} {a : Addr} {u : HO} (r : Rd H a u) (x : HOk P w H h) : ObjOk P w H h a u := by
  rcases r with r | ⟨o, r⟩
  · exact x a u r
  · obtain ⟨_, q⟩ := x a _ r
    exact q
def Mut : Option HO → Prop
  | some (.lst _) => True
  | some (.dK _) => True
  | some (.dT _) => True
  | some (.set _ _) => True
  | some (.ins _ _ _) => True
  | some (.ext _) => True
  | _ => False
section
variable {P : Program} {w : World} {H : Hp} {h h' : Heap} {x e : Addr} {o' : HO}
theorem HOk.write (ok : HOk P w H h) (mu : Mut (H x)) (he : e = x ∨ H e = some (.own x)) (k : ∀ b u, b ≠ e → h.get? b = some u → h'.get? b = some u) (heo : ∃ u, h'.get? e = some u)
    (new : ObjOk P w (upd H x o') h' x o') : HOk P w (upd H x o') h' := fun b u q => by
  have nown : ∀ c y, H c = some (.own y) → c ≠ x := fun c y r z => by subst z; rw [r] at mu; exact mu
  have ntup : ∀ c xs, H c = some (.tup xs) → c ≠ x := fun c xs r z => by subst z; rw [r] at mu; exact mu
  by_cases hb : b = x
  · subst hb; rw [upd_same] at q; cases q; exact new
  · rw [upd_ne hb] at q
    by_cases hbe : b = e
    · have q' : H b = some (.own x) := by
        rcases he with z | z
        · exact absurd (hbe.trans z) hb
        · rw [hbe]; exact z
      rw [q] at q'; cases q'
      obtain ⟨v, hv⟩ := heo
      exact ⟨v, by rw [hbe]; exact hv⟩
    · refine (ok b u q).stay (fun c v hc r => k c v ?_ r) (fun c r => by rw [upd_ne (nown c b r)]; exact r) fun c xs r => by rw [upd_ne (ntup c xs r)]; exact r
      rcases hc with rfl | hc
      · exact hbe
      · rintro rfl
        rcases he with z | z
        · exact nown c b hc z
        · rw [hc] at z; cases z; exact hb rfl
end
structure Un (fs ex : List Addr) (H H' : Hp) (h h' : Heap) : Prop where
  keep : ∀ b o, h.get? b = some o → H b = none → b ∉ fs → b ∉ ex → h'.get? b = some o
  slot : ∀ b o, h.get? b = some o → H b = none → b ∈ fs → b ∉ ex → ∃ sl, h'.get? b = some { o with slots := sl }
  free : ∀ b o, h.get? b = some o → H b = none → b ∉ ex → H' b = none
  there : ∀ b o, h.get? b = some o → b ∉ ex → ∃ o', h'.get? b = some o'
  tups : ∀ b xs, H b = some (.tup xs) → H' b = some (.tup xs)
  frzs : ∀ b o u, H b = some (.frz o u) → H' b = some (.frz o u)
  tbls : ∀ b ps, H b = some (.tbl ps) → ∃ more, H' b = some (.tbl (ps ++ more))
section
variable {fs fs' ex ex' : List Addr} {H H1 H2 : Hp} {h h1 h2 h' : Heap} {a x e : Addr} {o : HO}
theorem Un.any (u : Un fs ex H H1 h h1) {b : Addr} {ob : Obj} (q : h.get? b = some ob) (n : H b = none) (hx : b ∉ ex) : ∃ sl, h1.get? b = some { ob with slots := sl } := by
  by_cases hb : b ∈ fs
  · exact u.slot b ob q n hb hx
  · exact ⟨ob.slots, u.keep b ob q n hb hx⟩
theorem Un.trans (a : Un fs ex H H1 h h1) (b : Un fs ex H1 H2 h1 h2) : Un fs ex H H2 h h2 where
  keep := fun c ob q n hc hx => b.keep c ob (a.keep c ob q n hc hx) (a.free c ob q n hx) hc hx
  slot := fun c ob q n hc hx => by
    obtain ⟨sl, e1⟩ := a.slot c ob q n hc hx
    obtain ⟨sl', e2⟩ := b.slot c _ e1 (a.free c ob q n hx) hc hx
    exact ⟨sl', e2⟩
  free := fun c ob q n hx => by
    obtain ⟨o', e1⟩ := a.there c ob q hx
    exact b.free c o' e1 (a.free c ob q n hx) hx
  there := fun c ob q hx => by
    obtain ⟨o', e1⟩ := a.there c ob q hx
    exact b.there c o' e1 hx
  tups := fun c xs q => b.tups c xs (a.tups c xs q)
  frzs := fun c ob xs q => b.frzs c ob xs (a.frzs c ob xs q)
  tbls := fun c ps q => by
    obtain ⟨m1, e1⟩ := a.tbls c ps q
    obtain ⟨m2, e2⟩ := b.tbls c _ e1
    exact ⟨m1 ++ m2, by rw [e2, Array.append_assoc]⟩
theorem Un.kept (k : ∀ b u, h.get? b = some u → h'.get? b = some u) : Un fs ex H H h h' :=
  ⟨fun b ob q _ _ _ => k b ob q, fun b ob q _ _ _ => ⟨ob.slots, k b ob q⟩, fun _ _ _ n _ => n, fun b ob q _ => ⟨ob, k b ob q⟩, fun _ _ q => q, fun _ _ _ q => q, fun _ ps q => ⟨#[], by rw [q]; simp⟩⟩
theorem Un.refl : Un fs ex H H h h := Un.kept fun _ _ q => q
theorem Un.laid (k : ∀ b u, h.get? b = some u → h'.get? b = some u) (hp : h.objs.size ≤ a) (hn : H a = none) : Un fs ex H (upd H a o) h h' where
  keep := fun b u q _ _ _ => k b u q
  slot := fun b u q _ _ _ => ⟨u.slots, k b u q⟩
  free := fun b u q n _ => by rw [upd_ne (Nat.ne_of_lt (Nat.lt_of_lt_of_le (Heap.lt_size q) hp))]; exact n
  there := fun b u q _ => ⟨u, k b u q⟩
  tups := fun b xs q => by rw [upd_ne (ne_of_none q hn)]; exact q
  frzs := fun b u xs q => by rw [upd_ne (ne_of_none q hn)]; exact q
  tbls := fun b ps q => ⟨#[], by rw [upd_ne (ne_of_none q hn), q]; simp⟩
theorem Un.write (mu : Mut (H x)) (he : e = x ∨ H e = some (.own x)) (k : ∀ b u, b ≠ e → h.get? b = some u → h'.get? b = some u) (heo : ∃ u, h'.get? e = some u) : Un fs ex H (upd H x o) h h' := by
  have hx : ∀ b, H b = none → b ≠ x := fun b n z => by subst z; rw [n] at mu; exact mu
  have hb : ∀ b, H b = none → b ≠ e := fun b n z => by
    subst z
    rcases he with r | r
    · exact hx b n r
    · rw [n] at r; cases r
  have hm : ∀ b u, H b = some u → ¬ Mut (some u) → b ≠ x := fun b u q nm z => by subst z; rw [q] at mu; exact nm mu
  refine ⟨fun b u q n _ _ => k b u (hb b n) q, fun b u q n _ _ => ⟨u.slots, k b u (hb b n) q⟩, fun b u q n _ => by rw [upd_ne (hx b n)]; exact n, fun b u q _ => ?_,
    fun b xs q => by rw [upd_ne (hm b _ q fun z => z)]; exact q, fun b u xs q => by rw [upd_ne (hm b _ q fun z => z)]; exact q, fun b ps q => ⟨#[], by rw [upd_ne (hm b _ q fun z => z), q]; simp⟩⟩
  by_cases hbe : b = e
  · subst hbe; exact heo
  · exact ⟨u, k b u hbe q⟩
theorem Un.mono (u : Un fs ex H H1 h h1) (hs : ∀ b ∈ fs, b ∈ fs') (hx : ∀ b ∈ ex, b ∈ ex') : Un fs' ex' H H1 h h1 :=
  ⟨fun b ob q n hb he => u.keep b ob q n (fun z => hb (hs b z)) fun z => he (hx b z), fun _ _ q n _ he => u.any q n fun z => he (hx _ z), fun b ob q n he => u.free b ob q n fun z => he (hx b z), fun b ob q he => u.there b ob q fun z => he (hx b z), u.tups, u.frzs, u.tbls⟩
end
def trk (h : Heap) (H : Hp) : List Addr := (List.range h.objs.size).filter fun a => (H a).isSome
def hidT (h : Heap) (H : Hp) : Heap := PySem.W.hideAll h (trk h H)
theorem hidT_size (h : Heap) (H : Hp) : (hidT h H).objs.size = h.objs.size := PySem.W.hideAll_size _ _
theorem hidT_get {h : Heap} {H : Hp} {b : Addr} {o : Obj} (e : h.get? b = some o) (n : H b = none) : (hidT h H).get? b = some o :=
  PySem.W.hideAll_get _ e fun hm => by
    have q : (H b).isSome = true := (List.mem_filter.mp hm).2
    rw [n] at q; simp at q
theorem of_hidT {h : Heap} {H : Hp} {b : Addr} {o : Obj} (e : (hidT h H).get? b = some o) : h.get? b = some o ∧ H b = none := by
  have e' : h.get? b = some o := PySem.W.of_hideAll (trk h H) e
  refine ⟨e', ?_⟩
  cases q : H b with
  | none => rfl
  | some x =>
    have hm : b ∈ trk h H := List.mem_filter.mpr ⟨List.mem_range.mpr (Heap.lt_size e'), by simp [q]⟩
    have z : (hidT h H).get? b = none := PySem.W.hideAll_none (trk h H) hm
    rw [z] at e; cases e
def allNews (g h : Heap) (L : Addr) : List (Addr × Obj) := (List.range h.objs.size).filterMap fun a => if a = L ∨ (g.get? a).isSome = true then none else (h.get? a).map fun o => (a, o)
def rest (g h : Heap) (L d : Addr) : List (Addr × Obj) := (allNews g h L).filter fun p => decide (p.1 ≠ d)
end L2
namespace L2
open PySem PySem.Spec PyProof.Rows
structure Mod (K : PySem.W.Frag) (mg : Str → Option Value) (base : Heap) : Prop where
  kin : K.In base
  glob : base.Ns mainGlobals mg
  blt : ∃ mb, base.Ns builtinsNs mb ∧ ∀ x : Str, x ≠ "__name__" → mb x = bootBuiltins x
  nolimit : base.NoLimit
structure Cx where
  prog : Program
  w : World
  K : PySem.W.Frag
  mg : Str → Option Value
  base : Heap
  A : Around
  N : List Str
  s_0 : Shared
  H_0 : Hp
  env : Env
  outer : List Env
  stack : List Env
  ex : List Addr
  fn : Str → Bool
  calm : Bool
  pn : List (Addr × Obj)
  xe : Value → Shared → Prop
def frs (l : List Env) : List Addr := l.filterMap (·.frame)
abbrev Cx.fs (X : Cx) : List Addr := frs X.outer
def Vis (sc : Scope) (x : Str) : Prop := sc.names.lookup x = some .local ∨ sc.names.lookup x = some .cell ∨ sc.names.lookup x = some .free
def Loc (sc : Scope) (x : Str) : Prop := sc.names.lookup x = some .local ∨ sc.names.lookup x = some .cell
def Look (env : Env) (h : Heap) (m : Str → Option Value) (x : Str) (u : Value) : Prop :=
  (env.kindOf x = some .local ∧ m x = some u) ∨ ((env.kindOf x = some .cell ∨ env.kindOf x = some .free) ∧ ∃ c, env.cells.lookup x = some c ∧ h.IsCell c (some u))
structure Cx.Ok (X : Cx) : Prop where
  mod : Mod X.K X.mg X.base
  kind : X.env.scope.kind = .function
  glob : X.env.globals = mainGlobals
  blt : X.env.builtins = builtinsNs
  above : X.s_0.heap.objs.size ≤ X.env.locals
  inj : ∀ x y c, X.env.cells.lookup x = some c → X.env.cells.lookup y = some c → x = y
  has : ∀ x, (X.env.kindOf x = some .cell ∨ X.env.kindOf x = some .free) → ∃ c, X.env.cells.lookup x = some c
  cab : ∀ x c, X.fn x = true → X.env.cells.lookup x = some c → X.s_0.heap.objs.size ≤ c
  hd : X.calm = true → X.A.handled = none
  frames : X.A.frames = some X.stack
  stk : X.stack = X.outer ∨ (X.stack = X.env :: X.outer ∧ X.env.frame = some X.env.locals)
  exf : ∀ b ∈ X.ex, b ≠ X.env.locals ∧ ∀ x c, X.env.cells.lookup x = some c → c ≠ b
  bs : ∀ b o, X.base.get? b = some o → X.s_0.heap.get? b = some o ∧ X.H_0 b = none
  bsz : X.base.objs.size ≤ X.s_0.heap.objs.size
  noex : ∀ b o, X.base.get? b = some o → b ∉ X.ex
  exfs : ∀ b ∈ X.ex, b ∉ X.fs
  funs : X.s_0.heap.FunFrames X.base X.outer
  frf : ∀ b ∈ X.fs, X.H_0 b = none
structure Inv (X : Cx) (pins : List (Addr × Obj)) (σ : List (Option V)) (H : Hp) (s : Shared) : Prop where
  ok : X.Ok
  os : s.os = X.s_0.os
  bare : AllBare s.gens
  base : Un X.fs X.ex X.H_0 H X.s_0.heap s.heap
  loc : ∃ m, s.heap.Ns X.env.locals m ∧ ∀ (i : Nat) (x : Str) (v : V), X.N[i]? = some x → σ[i]? = some (some v) → Vis X.env.scope x → ∃ u, RelV v u ∧ Look X.env s.heap m x u
  cell : ∀ x c, X.env.cells.lookup x = some c → ∃ v, s.heap.IsCell c v
  free : H X.env.locals = none
  freeC : ∀ x c, X.env.cells.lookup x = some c → H c = none
  pin : ∀ p ∈ X.pn ++ pins, s.heap.get? p.1 = some p.2 ∧ H p.1 = none ∧ p.1 ≠ X.env.locals ∧ p.1 ∉ X.fs ∧ ∀ v, p.2.data ≠ .cell v
  hok : HOk X.prog X.w H s.heap
  len : σ.length = X.N.length
section
variable {X : Cx} {pins : List (Addr × Obj)} {σ : List (Option V)} {H H' : Hp} {s : Shared} {h' : Heap}
theorem Cx.Ok.nofr (ok : X.Ok) {b : Addr} {o : Obj} (e : X.base.get? b = some o) : b ∉ X.fs := fun hb => by
  have := (ok.funs.mem hb).1
  rw [e] at this; cases this
theorem Inv.bs (I : Inv X pins σ H s) : ∀ b o, X.base.get? b = some o → s.heap.get? b = some o ∧ H b = none := fun b o e =>
  ⟨I.base.keep b o (I.ok.bs b o e).1 (I.ok.bs b o e).2 (I.ok.nofr e) (I.ok.noex b o e), I.base.free b o (I.ok.bs b o e).1 (I.ok.bs b o e).2 (I.ok.noex b o e)⟩
theorem Inv.bk (I : Inv X pins σ H s) : ∀ b o, X.base.get? b = some o → s.heap.get? b = some o := fun b o e => (I.bs b o e).1
theorem Inv.mod (I : Inv X pins σ H s) : Mod X.K X.mg X.base := I.ok.mod
theorem Inv.kIn (I : Inv X pins σ H s) : X.K.In s.heap := I.ok.mod.kin.keeps I.bk
theorem Inv.nolimit (I : Inv X pins σ H s) : s.heap.NoLimit := I.ok.mod.nolimit.keeps I.bk
theorem Inv.fr (I : Inv X pins σ H s) : ∃ m, Fr X.base X.env.locals s.heap m :=
  let ⟨m, hn, _⟩ := I.loc
  ⟨m, hn, I.bk, Nat.le_trans I.ok.bsz I.ok.above⟩
theorem Inv.lt (I : Inv X pins σ H s) : X.env.locals < s.heap.objs.size := let ⟨_, hn, _⟩ := I.loc; hn.lt
theorem Inv.sz (I : Inv X pins σ H s) : X.s_0.heap.objs.size ≤ s.heap.objs.size := Nat.le_trans I.ok.above (Nat.le_of_lt I.lt)
theorem Inv.nofs (I : Inv X pins σ H s) {a : Addr} (h : s.heap.objs.size ≤ a) : a ∉ X.fs := fun hb => by
  obtain ⟨_, o, ho, _⟩ := I.ok.funs.mem hb
  exact absurd (Nat.lt_of_lt_of_le (Heap.lt_size ho) (Nat.le_trans I.sz h)) (Nat.lt_irrefl _)
theorem Inv.cne (I : Inv X pins σ H s) : ∀ x c, X.env.cells.lookup x = some c → c ≠ X.env.locals := fun x c e z => by
  obtain ⟨v, o, ho, hd⟩ := I.cell x c e
  obtain ⟨m, ⟨o', es, ep, ho', hd', _⟩, _⟩ := I.loc
  rw [z, ho'] at ho; cases ho; rw [hd'] at hd; cases hd
theorem Inv.funs (I : Inv X pins σ H s) : s.heap.FunFrames X.base X.outer := by
  have all : ∀ (l : List Env), (∀ b ∈ frs l, b ∈ X.fs) → X.s_0.heap.FunFrames X.base l → s.heap.FunFrames X.base l := by
    intro l
    induction l with
    | nil => intro _ _; trivial
    | cons env r ih =>
      intro hs hl
      obtain ⟨hk, ⟨L, o, hf, hn, ho, hd⟩, hr⟩ := hl
      have hL : L ∈ X.fs := hs L (by unfold frs; rw [List.filterMap_cons, hf]; exact List.mem_cons_self)
      obtain ⟨sl, e⟩ := I.base.slot L o ho (I.ok.frf L hL) hL fun z => I.ok.exfs L z hL
      exact ⟨hk, ⟨L, _, hf, hn, e, hd⟩, ih (fun b hb => hs b (by unfold frs; rw [List.filterMap_cons, hf]; exact List.mem_cons_of_mem _ hb)) hr⟩
  exact all X.outer (fun _ hb => hb) I.ok.funs
theorem Inv.stack (I : Inv X pins σ H s) : s.heap.FunFrames X.base X.stack := by
  rcases I.ok.stk with e | ⟨e, hf⟩
  · rw [e]; exact I.funs
  · rw [e]
    obtain ⟨m, hn, _⟩ := I.loc
    refine .cons (by rw [I.ok.kind]; decide) hf hn ?_ I.funs
    exact Heap.get?_none_of_le (Nat.le_trans I.ok.bsz I.ok.above)
theorem Inv.stkSub (I : Inv X pins σ H s) : ∀ b ∈ frs X.stack, b ∈ X.env.locals :: X.fs := fun b hb => by
  rcases I.ok.stk with e | ⟨e, hf⟩
  · rw [e] at hb; exact List.mem_cons_of_mem _ hb
  · rw [e] at hb
    unfold frs at hb
    rw [List.filterMap_cons, hf] at hb
    exact hb
theorem Inv.stkFree (I : Inv X pins σ H s) : ∀ b ∈ frs X.stack, H b = none := fun b hb => by
  rcases List.mem_cons.mp (I.stkSub b hb) with e | hb
  · rw [e]; exact I.free
  · obtain ⟨_, o, ho, _⟩ := I.ok.funs.mem hb
    exact I.base.free b o ho (I.ok.frf b hb) fun z => I.ok.exfs b z hb
theorem Inv.step {g' : Array GenState} {t' : Nat} {d' : Drawn} {ch : List Addr} (I : Inv X pins σ H s)
    (hch : ∀ b ∈ ch, (b ∈ X.ex ∨ X.s_0.heap.objs.size ≤ b) ∧ b ≠ X.env.locals ∧ (∀ x c, X.env.cells.lookup x = some c → c ≠ b) ∧ ∀ p ∈ X.pn ++ pins, p.1 ≠ b)
    (keep : ∀ b o, b ≠ X.env.locals → b ∉ X.fs → b ∉ ch → s.heap.get? b = some o → H b = none → h'.get? b = some o)
    (slot : ∀ b o, b ≠ X.env.locals → b ∈ X.fs → b ∉ ch → s.heap.get? b = some o → H b = none → ∃ sl, h'.get? b = some { o with slots := sl }) (free : ∀ b o, b ∉ ch → s.heap.get? b = some o → H b = none → H' b = none)
    (there : ∀ b o, b ∉ ch → s.heap.get? b = some o → ∃ o', h'.get? b = some o')
    (tups : ∀ b xs, H b = some (.tup xs) → H' b = some (.tup xs)) (frzs : ∀ b o u, H b = some (.frz o u) → H' b = some (.frz o u)) (tbls : ∀ b ps, H b = some (.tbl ps) → ∃ more, H' b = some (.tbl (ps ++ more)))
    (ns : ∀ m, s.heap.Ns X.env.locals m → h'.Ns X.env.locals m) (hok : HOk X.prog X.w H' h') (hg : AllBare g') :
    Inv X pins σ H' { s with heap := h', gens := g', drawn := d', toks := t' } := by
  have neL : ∀ b o, X.s_0.heap.get? b = some o → b ≠ X.env.locals := fun b o e => Nat.ne_of_lt (Nat.lt_of_lt_of_le (Heap.lt_size e) I.ok.above)
  have neC : ∀ b o, X.s_0.heap.get? b = some o → b ∉ X.ex → b ∉ ch := fun b o e hx hb => by
    rcases (hch b hb).1 with z | z
    · exact hx z
    · exact absurd (Nat.lt_of_lt_of_le (Heap.lt_size e) z) (Nat.lt_irrefl _)
  have cellK : ∀ x c, X.env.cells.lookup x = some c → ∀ v, s.heap.IsCell c v → h'.IsCell c v := fun x c e v ⟨o, ho, hd⟩ => by
    have nch : c ∉ ch := fun z => (hch c z).2.2.1 x c e rfl
    by_cases hc : c ∈ X.fs
    · obtain ⟨sl, q⟩ := slot c o (I.cne x c e) hc nch ho (I.freeC x c e)
      exact ⟨_, q, hd⟩
    · exact ⟨o, keep c o (I.cne x c e) hc nch ho (I.freeC x c e), hd⟩
  refine ⟨I.ok, I.os, hg, ⟨fun b o e n hb hx => ?_, fun b o e n hb hx => ?_, fun b o e n hx => ?_, fun b o e hx => ?_, fun b xs e => tups b xs (I.base.tups b xs e), fun b o xs e => frzs b o xs (I.base.frzs b o xs e), fun b ps e => ?_⟩, ?_, fun x c e => ?_, ?_, fun x c e => ?_, fun p hp => ?_, hok, I.len⟩
  · exact keep b o (neL b o e) hb (neC b o e hx) (I.base.keep b o e n hb hx) (I.base.free b o e n hx)
  · obtain ⟨sl, e1⟩ := I.base.slot b o e n hb hx
    obtain ⟨sl', e2⟩ := slot b _ (neL b o e) hb (neC b o e hx) e1 (I.base.free b o e n hx)
    exact ⟨sl', e2⟩
  · obtain ⟨o', e1⟩ := I.base.there b o e hx
    exact free b o' (neC b o e hx) e1 (I.base.free b o e n hx)
  · obtain ⟨o', e1⟩ := I.base.there b o e hx
    exact there b o' (neC b o e hx) e1
  · obtain ⟨m1, e1⟩ := I.base.tbls b ps e
    obtain ⟨m2, e2⟩ := tbls b _ e1
    exact ⟨m1 ++ m2, by rw [e2, Array.append_assoc]⟩
  · obtain ⟨m, hn, hl⟩ := I.loc
    refine ⟨m, ns m hn, fun i x v e1 e2 e3 => ?_⟩
    obtain ⟨u, r, l⟩ := hl i x v e1 e2 e3
    refine ⟨u, r, ?_⟩
    rcases l with l | ⟨k, c, e, z⟩
    · exact .inl l
    · exact .inr ⟨k, c, e, cellK x c e _ z⟩
  · obtain ⟨v, z⟩ := I.cell x c e
    exact ⟨v, cellK x c e v z⟩
  · obtain ⟨m, ⟨o, _, _, ho, _⟩, _⟩ := I.loc
    exact free _ o (fun z => (hch _ z).2.1 rfl) ho I.free
  · obtain ⟨v, o, ho, hd⟩ := I.cell x c e
    exact free c o (fun z => (hch c z).2.2.1 x c e rfl) ho (I.freeC x c e)
  · obtain ⟨e, n, ne, nf, d⟩ := I.pin p hp
    have nch : p.1 ∉ ch := fun z => (hch p.1 z).2.2.2 p hp rfl
    exact ⟨keep p.1 p.2 ne nf nch e n, free p.1 p.2 nch e n, ne, nf, d⟩
theorem Inv.un {t' : Nat} (I : Inv X pins σ H s) (u : Un X.fs [] H H' s.heap h') (hok : HOk X.prog X.w H' h') : Inv X pins σ H' { s with heap := h', toks := t' } := by
  obtain ⟨m, ⟨o, es, ep, ho, r⟩, _⟩ := id I.loc
  obtain ⟨sl, hL⟩ := u.any ho I.free (by simp)
  exact I.step (g' := s.gens) (d' := s.drawn) (ch := []) (fun _ z => nomatch z) (fun b o _ hb _ e n => u.keep b o e n hb (by simp)) (fun b o _ hb _ e n => u.slot b o e n hb (by simp)) (fun b o _ e n => u.free b o e n (by simp)) (fun b o _ e => u.there b o e (by simp)) u.tups u.frzs u.tbls (fun m' hm => by
    obtain ⟨o', es', ep', ho', r'⟩ := hm
    rw [ho] at ho'; cases ho'
    exact ⟨_, es', ep', hL, r'⟩) hok I.bare
theorem Inv.call {g' : Array GenState} {t' : Nat} {d' : Drawn} {ch : List Addr} (I : Inv X pins σ H s) (u : Un (frs X.stack) ch H H' s.heap h') (hok : HOk X.prog X.w H' h') (hg : AllBare g')
    (hch : ∀ b ∈ ch, (b ∈ X.ex ∨ X.s_0.heap.objs.size ≤ b) ∧ b ≠ X.env.locals ∧ (∀ x c, X.env.cells.lookup x = some c → c ≠ b) ∧ ∀ p ∈ X.pn ++ pins, p.1 ≠ b) :
    Inv X pins σ H' { s with heap := h', gens := g', drawn := d', toks := t' } := by
  obtain ⟨m, ⟨o, es, ep, ho, r⟩, _⟩ := id I.loc
  obtain ⟨sl, hL⟩ := u.any ho I.free fun z => (hch _ z).2.1 rfl
  exact I.step (ch := ch) hch (fun b o hL hb hc e n => u.keep b o e n (fun z => (List.mem_cons.mp (I.stkSub b z)).elim hL hb) hc) (fun b o _ _ hc e n => u.any e n hc) (fun b o hc e n => u.free b o e n hc) (fun b o hc e => u.there b o e hc) u.tups u.frzs u.tbls (fun m' hm => by
    obtain ⟨o', es', ep', ho', r'⟩ := hm
    rw [ho] at ho'; cases ho'
    exact ⟨_, es', ep', hL, r'⟩) hok hg
theorem Inv.turned {t' : Nat} {it : Addr} (I : Inv X pins σ H s) (k : ∀ b o, b ≠ it → s.heap.get? b = some o → h'.get? b = some o) (hn : H it = none) (hL : it ≠ X.env.locals)
    (h1 : it ∈ X.ex ∨ X.s_0.heap.objs.size ≤ it) (h2 : ∀ x c, X.env.cells.lookup x = some c → c ≠ it) (h3 : ∀ p ∈ X.pn ++ pins, p.1 ≠ it) : Inv X pins σ H { s with heap := h', toks := t' } := by
  have nit : ∀ b u, H b = some u → b ≠ it := fun b u e z => by rw [z, hn] at e; cases e
  refine I.step (g' := s.gens) (d' := s.drawn) (ch := [it]) (fun b hb => ?_) (fun b o _ _ hc e _ => k b o (fun z => hc (by simp [z])) e) (fun b o _ _ hc e _ => ⟨o.slots, k b o (fun z => hc (by simp [z])) e⟩) (fun _ _ _ _ n => n)
    (fun b o hc e => ⟨o, k b o (fun z => hc (by simp [z])) e⟩) (fun _ _ e => e) (fun _ _ _ e => e) (fun b ps e => ⟨#[], by rw [e]; simp⟩) (fun m hm => ?_) (fun b u e => ?_) I.bare
  · have e : b = it := by simpa using hb
    subst e
    exact ⟨h1, hL, h2, h3⟩
  · obtain ⟨o, es, ep, ho, r⟩ := hm
    exact ⟨o, es, ep, k _ o (Ne.symm hL) ho, r⟩
  · refine (I.hok b u e).stay (fun c v hc q => k c v ?_ q) (fun _ q => q) fun _ _ q => q
    rcases hc with z | z
    · rw [z]; exact nit b u e
    · exact nit c _ z
theorem Inv.tok (I : Inv X pins σ H s) (t : Nat) : Inv X pins σ H { s with toks := t } := I.un (h' := s.heap) (t' := t) Un.refl I.hok
theorem Inv.kept {t' : Nat} (I : Inv X pins σ H s) (k : ∀ b u, s.heap.get? b = some u → h'.get? b = some u) : Inv X pins σ H { s with heap := h', toks := t' } := I.un (Un.kept k) (I.hok.kept k)
theorem Inv.laid {a : Addr} {o : HO} {t' : Nat} (I : Inv X pins σ H s) (k : ∀ b u, s.heap.get? b = some u → h'.get? b = some u) (hp : s.heap.objs.size ≤ a) (new : ObjOk X.prog X.w (upd H a o) h' a o) :
    Inv X pins σ (upd H a o) { s with heap := h', toks := t' } := I.un (Un.laid k hp (I.hok.fresh hp)) (I.hok.laid k hp new)
theorem Inv.write {x e : Addr} {o : HO} {t' : Nat} (I : Inv X pins σ H s) (mu : Mut (H x)) (he : e = x ∨ H e = some (.own x)) (k : ∀ b u, b ≠ e → s.heap.get? b = some u → h'.get? b = some u) (heo : ∃ u, h'.get? e = some u)
    (new : ObjOk X.prog X.w (upd H x o) h' x o) : Inv X pins σ (upd H x o) { s with heap := h', toks := t' } := I.un (Un.write mu he k heo) (I.hok.write mu he k heo new)
theorem Inv.weak {σ' : List (Option V)} (I : Inv X pins σ H s) (hl : σ'.length = σ.length) (w : ∀ (i : Nat) v, σ'[i]? = some (some v) → σ[i]? = some (some v)) : Inv X pins σ' H s :=
  ⟨I.ok, I.os, I.bare, I.base, let ⟨m, hn, hl'⟩ := I.loc; ⟨m, hn, fun i x v e1 e2 e3 => hl' i x v e1 (w i v e2) e3⟩, I.cell, I.free, I.freeC, I.pin, I.hok, hl.trans I.len⟩
theorem Inv.pins_of {pins' : List (Addr × Obj)} (I : Inv X pins σ H s) (h : ∀ p ∈ pins', s.heap.get? p.1 = some p.2 ∧ H p.1 = none ∧ p.1 ≠ X.env.locals ∧ p.1 ∉ X.fs ∧ ∀ v, p.2.data ≠ .cell v) : Inv X pins' σ H s :=
  ⟨I.ok, I.os, I.bare, I.base, I.loc, I.cell, I.free, I.freeC, fun p hp => (List.mem_append.mp hp).elim (fun z => I.pin p (List.mem_append_left _ z)) (h p), I.hok, I.len⟩
theorem nodup_ix {N : List Str} (hN : N.Nodup) {i j : Nat} {x : Str} (a : N[i]? = some x) (b : N[j]? = some x) : i = j := by
  obtain ⟨h1, e1⟩ := List.getElem?_eq_some_iff.mp a
  obtain ⟨h2, e2⟩ := List.getElem?_eq_some_iff.mp b
  exact (List.getElem_inj hN).mp (e1.trans e2.symm)
theorem store_ok2 {M : Model} {A : Around} {E : Value → Shared → Prop} {i : Nat} {x : Str} {v : V} {u : Value} {Q : Unit → Shared → Prop} (I : Inv X pins σ H s) (hN : X.N.Nodup) (hi : X.N[i]? = some x) (hx : Loc X.env.scope x) (r : RelV v u)
    (h : ∀ s', Inv X pins (σ.set i (some v)) H s' → (∃ a, Heap.SameBut a s.heap s'.heap ∧ (a = X.env.locals ∨ X.env.cells.lookup x = some a)) → Q () s') (hf : X.fn x = true ∨ X.env.scope.names.lookup x = some .local := by first | exact .inl rfl | exact .inr rfl | assumption) : wpAny M A (storeName X.env x u) Q E s := by
  obtain ⟨m, hn, hl⟩ := id I.loc
  have hcls : (X.env.scope.kind == .class || (X.env.scope.kind == .module && X.env.locals != X.env.globals)) = false := by rw [I.ok.kind]; rfl
  have hiσ : i < σ.length := by rw [I.len]; exact (List.getElem?_eq_some_iff.mp hi).1
  have cne := I.cne
  have tracked : ∀ {a : Addr} {h' : Heap}, (∃ o, s.heap.get? a = some o ∧ H a = none) → Heap.SameBut a s.heap h' → HOk X.prog X.w H h' := fun {a h'} ha hs b ob e => by
    obtain ⟨_, _, hfree⟩ := ha
    refine (I.hok b ob e).stay (fun c w' hc q => (hs.2 c ?_).trans q) (fun _ q => q) fun _ _ q => q
    rintro rfl
    rcases hc with rfl | hc
    · rw [hfree] at e; cases e
    · rw [hfree] at hc; cases hc
  rcases hx with hk | hk
  · refine wpAny_storeName_local hk hn (fun h' hn' hs => ?_) hcls
    obtain ⟨oL, _, _, hoL, _⟩ := id hn
    refine h _ ⟨I.ok, I.os, I.bare, ⟨fun b o e n hb hx => ?_, fun b o e n hb hx => ?_, I.base.free, fun b o e hx => ?_, I.base.tups, I.base.frzs, I.base.tbls⟩, ⟨_, hn', fun j y v' e1 e2 e3 => ?_⟩, fun y c e => ?_, I.free, I.freeC, fun p hp => ?_, tracked ⟨oL, hoL, I.free⟩ hs, by simpa using I.len⟩ ⟨_, hs, .inl rfl⟩
    · exact (hs.2 b (Nat.ne_of_lt (Nat.lt_of_lt_of_le (Heap.lt_size e) I.ok.above))).trans (I.base.keep b o e n hb hx)
    · obtain ⟨sl, e1⟩ := I.base.slot b o e n hb hx
      exact ⟨sl, (hs.2 b (Nat.ne_of_lt (Nat.lt_of_lt_of_le (Heap.lt_size e) I.ok.above))).trans e1⟩
    · obtain ⟨o', e1⟩ := I.base.there b o e hx
      exact ⟨o', (hs.2 b (Nat.ne_of_lt (Nat.lt_of_lt_of_le (Heap.lt_size e) I.ok.above))).trans e1⟩
    · by_cases hj : j = i
      · subst hj
        rw [hi] at e1; cases e1
        rw [List.getElem?_set_self hiσ] at e2
        cases e2
        exact ⟨u, r, .inl ⟨hk, by simp⟩⟩
      · rw [List.getElem?_set_ne (Ne.symm hj)] at e2
        obtain ⟨u', r', q⟩ := hl j y v' e1 e2 e3
        refine ⟨u', r', ?_⟩
        rcases q with ⟨k, e⟩ | ⟨k, c, e, z⟩
        · refine .inl ⟨k, ?_⟩
          have : y ≠ x := fun e => hj (nodup_ix hN e1 (e ▸ hi))
          simp [this, e]
        · exact .inr ⟨k, c, e, z.sameBut hs (cne y c e)⟩
    · obtain ⟨w', z⟩ := I.cell y c e
      exact ⟨w', z.sameBut hs (cne y c e)⟩
    · obtain ⟨e, n, ne, nf, d⟩ := I.pin p hp
      exact ⟨(hs.2 p.1 ne).trans e, n, ne, nf, d⟩
  · have hfn : X.fn x = true := by
      rcases hf with z | z
      · exact z
      · rw [z] at hk; cases hk
    obtain ⟨c, hc⟩ := I.ok.has x (.inl hk)
    obtain ⟨w', z⟩ := I.cell x c hc
    refine wpAny_storeName_cell I.ok.kind hk hc z (fun h' hc' hs => ?_)
    obtain ⟨oc, hoc, hocd⟩ := id z
    refine h { s with heap := h' } ⟨I.ok, I.os, I.bare, ⟨fun b o e n hb hx => ?_, fun b o e n hb hx => ?_, I.base.free, fun b o e hx => ?_, I.base.tups, I.base.frzs, I.base.tbls⟩, ⟨m, hn.sameBut hs (Ne.symm (cne x c hc)), fun j y v' e1 e2 e3 => ?_⟩, fun y c' e => ?_, I.free, I.freeC, fun p hp => ?_, tracked ⟨oc, hoc, I.freeC x c hc⟩ hs, by simpa using I.len⟩ ⟨c, hs, .inr hc⟩
    · exact (hs.2 b (Nat.ne_of_lt (Nat.lt_of_lt_of_le (Heap.lt_size e) (I.ok.cab x c hfn hc)))).trans (I.base.keep b o e n hb hx)
    · obtain ⟨sl, e1⟩ := I.base.slot b o e n hb hx
      exact ⟨sl, (hs.2 b (Nat.ne_of_lt (Nat.lt_of_lt_of_le (Heap.lt_size e) (I.ok.cab x c hfn hc)))).trans e1⟩
    · obtain ⟨o', e1⟩ := I.base.there b o e hx
      exact ⟨o', (hs.2 b (Nat.ne_of_lt (Nat.lt_of_lt_of_le (Heap.lt_size e) (I.ok.cab x c hfn hc)))).trans e1⟩
    · by_cases hj : j = i
      · subst hj
        rw [hi] at e1; cases e1
        rw [List.getElem?_set_self hiσ] at e2
        cases e2
        exact ⟨u, r, .inr ⟨.inl hk, c, hc, hc'⟩⟩
      · rw [List.getElem?_set_ne (Ne.symm hj)] at e2
        obtain ⟨u', r', q⟩ := hl j y v' e1 e2 e3
        refine ⟨u', r', ?_⟩
        rcases q with q | ⟨k, c', e, z'⟩
        · exact .inl q
        · refine .inr ⟨k, c', e, z'.sameBut hs ?_⟩
          rintro rfl
          exact hj (nodup_ix hN e1 (I.ok.inj _ _ _ e hc ▸ hi))
    · by_cases hcc : c' = c
      · subst hcc; exact ⟨_, hc'⟩
      · obtain ⟨w2, z2⟩ := I.cell y c' e
        exact ⟨w2, z2.sameBut hs hcc⟩
    · obtain ⟨e, n, ne, nf, d⟩ := I.pin p hp
      refine ⟨(hs.2 p.1 ?_).trans e, n, ne, nf, d⟩
      intro q
      rw [q, hoc] at e
      have q' : oc = p.2 := Option.some.inj e
      exact d w' (by rw [← q']; exact hocd)
theorem store_ok {M : Model} {A : Around} {E : Value → Shared → Prop} {i : Nat} {x : Str} {v : V} {u : Value} {Q : Unit → Shared → Prop} (I : Inv X pins σ H s) (hN : X.N.Nodup) (hi : X.N[i]? = some x) (hx : Loc X.env.scope x) (r : RelV v u)
    (h : ∀ s', Inv X pins (σ.set i (some v)) H s' → Q () s') (hf : X.fn x = true ∨ X.env.scope.names.lookup x = some .local := by first | exact .inl rfl | exact .inr rfl | assumption) : wpAny M A (storeName X.env x u) Q E s :=
  store_ok2 I hN hi hx r (fun s' I' _ => h s' I') hf
theorem Inv.call' {s' : Shared} {ch : List Addr} (I : Inv X pins σ H s) (ho : s'.os = s.os) (u : Un (frs X.stack) ch H H' s.heap s'.heap) (hok : HOk X.prog X.w H' s'.heap) (hg : AllBare s'.gens)
    (hch : ∀ b ∈ ch, (b ∈ X.ex ∨ X.s_0.heap.objs.size ≤ b) ∧ b ≠ X.env.locals ∧ (∀ x c, X.env.cells.lookup x = some c → c ≠ b) ∧ ∀ p ∈ X.pn ++ pins, p.1 ≠ b) : Inv X pins σ H' s' := by
  obtain ⟨h', g', d', t', o'⟩ := s'
  have e : o' = s.os := ho
  subst e
  exact I.call (g' := g') (t' := t') (d' := d') u hok hg hch
end
abbrev XK := Value → Option Addr → Hp → Prop
abbrev St := List (Option V)
abbrev VK := V → Hp → Prop
abbrev TE := St → Hp → VK → Prop
abbrev TT := St → Hp → (Bool → Hp → Prop) → Prop
abbrev TA := St → Hp → (List V → Hp → Prop) → Prop
structure Ends where
  nx : St → Hp → Prop
  rt : VK
  bk : St → Hp → Prop := fun _ _ => False
  ct : St → Hp → Prop := fun _ _ => False
abbrev TS := Ends → St → Hp → Prop
def EP (X : Cx) (pins : List (Addr × Obj)) (σ : St) (Q : VK) (u : Value) (s' : Shared) : Prop := ∃ v H', Inv X pins σ H' s' ∧ RelV v u ∧ Q v H'
def TP (X : Cx) (pins : List (Addr × Obj)) (σ : St) (Q : Bool → Hp → Prop) (b : Bool) (s' : Shared) : Prop := ∃ H', Inv X pins σ H' s' ∧ Q b H'
def AP (X : Cx) (pins : List (Addr × Obj)) (σ : St) (Q : List V → Hp → Prop) (us : List Value) (s' : Shared) : Prop := ∃ vs H', Inv X pins σ H' s' ∧ Vals vs us ∧ Q vs H'
def SP (X : Cx) (pins : List (Addr × Obj)) (D : Ends) (f : Flow) (s' : Shared) : Prop :=
  match f with
  | .next => ∃ σ' H', Inv X pins σ' H' s' ∧ D.nx σ' H'
  | .brk => ∃ σ' H', Inv X pins σ' H' s' ∧ D.bk σ' H'
  | .cont => ∃ σ' H', Inv X pins σ' H' s' ∧ D.ct σ' H'
  | .ret u => ∃ v σ' H', Inv X pins σ' H' s' ∧ RelV v u ∧ D.rt v H'
def PE (X : Cx) (e : Expr) (t : TE) : Prop :=
  ∀ (pins : List (Addr × Obj)) (s : Shared) (σ : St) (H : Hp) (Q : VK), Inv X pins σ H s → t σ H Q → wpAny (model X.prog X.w) X.A (eval e X.env) (EP X pins σ Q) X.xe s
def PT (X : Cx) (e : Expr) (t : TT) : Prop :=
  ∀ (pins : List (Addr × Obj)) (s : Shared) (σ : St) (H : Hp) (Q : Bool → Hp → Prop), Inv X pins σ H s → t σ H Q → wpAny (model X.prog X.w) X.A (isTrue e X.env (eval e X.env)) (TP X pins σ Q) X.xe s
def PW (X : Cx) (e : Expr) (t : TT) : Prop :=
  ∀ (whole : Sem Value) (pins : List (Addr × Obj)) (s : Shared) (σ : St) (H : Hp) (Q : Bool → Hp → Prop), Inv X pins σ H s → t σ H Q → wpAny (model X.prog X.w) X.A (isTrue e X.env whole) (TP X pins σ Q) X.xe s
theorem PW.pt {X : Cx} {e : Expr} {t : TT} (h : PW X e t) : PT X e t := h _
def PA (X : Cx) (es : List Expr) (t : TA) : Prop :=
  ∀ (pos : Pos) (pins : List (Addr × Obj)) (s : Shared) (σ : St) (H : Hp) (Q : List V → Hp → Prop), Inv X pins σ H s → t σ H Q → wpAny (model X.prog X.w) X.A (spliced (backTo pos (starEach es X.env))) (AP X pins σ Q) X.xe s
def PS (X : Cx) (st : Stmt) (t : TS) : Prop :=
  ∀ (pins : List (Addr × Obj)) (s : Shared) (σ : St) (H : Hp) (D : Ends), Inv X pins σ H s → t D σ H → wpAny (model X.prog X.w) X.A (exec st X.env) (SP X pins D) X.xe s
def PSs (X : Cx) (st : List Stmt) (t : TS) : Prop :=
  ∀ (pins : List (Addr × Obj)) (s : Shared) (σ : St) (H : Hp) (D : Ends), Inv X pins σ H s → t D σ H → wpAny (model X.prog X.w) X.A (execs st X.env) (SP X pins D) X.xe s
theorem thn {α : Type} {t : Sem α} {Q Q' : α → Shared → Prop} {M : Model} {A : Around} {E : Value → Shared → Prop} {s : Shared} (h : wpAny M A t Q E s) (hQ : ∀ a s, Q a s → Q' a s) : wpAny M A t Q' E s := wpAny_mono h hQ fun _ _ x => x
end L2
namespace L2
open PySem PySem.Spec PyProof.Rows
section
variable {X : Cx}
def tVar (i : Nat) : TE := fun σ H Q => ∃ v, σ[i]? = some (some v) ∧ Q v H
def tC (v : V) : TE := fun _ H Q => Q v H
theorem pe_var {i : Nat} {x : Str} {pos : Pos} (hN : X.N[i]? = some x) (hv : Vis X.env.scope x) (hd : (x == ("__debug__" : Str)) = false := by decide) (hcd : (x == ("__classdict__" : Str)) = false := by decide) : PE X (.Name x pos) (tVar i) := by
  intro pins s σ H Q I h
  obtain ⟨v, e, h⟩ := h
  obtain ⟨m, hn, hl⟩ := I.loc
  obtain ⟨u, r, l⟩ := hl i x v hN e hv
  have fin : EP X pins σ Q u s := ⟨v, H, I, r, h⟩
  rcases l with ⟨hk, hm⟩ | ⟨hk, c, hc, hcell⟩
  · exact wpAny_Name (wpAny_loadName_local I.ok.kind hk hn hm fin) hd
  · rcases hk with hk | hk
    · exact wpAny_Name (wpAny_loadName_cell I.ok.kind hk hc hcell fin) hd
    · exact wpAny_Name (wpAny_loadName_free I.ok.kind hk hc hcell fin hcd) hd
theorem pe_int {i j pos} : PE X (.Constant (.int i) j pos) (tC (.int i)) := fun _ _ _ H _ I h => wpAny_Constant_int ⟨.int i, H, I.tok _, ⟨_, rfl⟩, h⟩
theorem pe_bl {b j pos} : PE X (.Constant (.bool b) j pos) (tC (.bl b)) := fun _ _ _ H _ I h => Constant_bool ⟨.bl b, H, I, rfl, h⟩
theorem pe_non {j pos} : PE X (.Constant .none j pos) (tC .non) := fun _ _ _ H _ I h => Constant_none ⟨.non, H, I, rfl, h⟩
theorem pe_str {x j pos} : PE X (.Constant (.str x) j pos) (tC (.str x)) := fun _ _ _ H _ I h => Calls.Constant_str ⟨.str x, H, I.tok _, ⟨_, rfl⟩, h⟩
def Gl (X : Cx) (x : Str) : Prop := X.env.kindOf x = some .globalImplicit
theorem ld_glob {E : Value → Shared → Prop} {pins : List (Addr × Obj)} {s : Shared} {σ : St} {H : Hp} {x : Str} {u : Value} {pos : Pos} {Q : Value → Shared → Prop} (I : Inv X pins σ H s) (hg : Gl X x) (hm : X.mg x = some u) (h : Q u s)
    (hd : (x == ("__debug__" : Str)) = false := by decide) : wpAny (model X.prog X.w) X.A (eval (.Name x pos) X.env) Q E s :=
  Calls.Name_function_global I.ok.kind hg (Calls.loadGlobal_global (by rw [I.ok.glob]; exact I.mod.glob.keeps I.bk) hm h) hd
theorem ld_blt {E : Value → Shared → Prop} {pins : List (Addr × Obj)} {s : Shared} {σ : St} {H : Hp} {x : Str} {u : Value} {pos : Pos} {Q : Value → Shared → Prop} (I : Inv X pins σ H s) (hg : Gl X x) (hm : X.mg x = none) (hv : bootBuiltins x = some u) (h : Q u s)
    (hn : x ≠ "__name__" := by decide) (hd : (x == ("__debug__" : Str)) = false := by decide) : wpAny (model X.prog X.w) X.A (eval (.Name x pos) X.env) Q E s := by
  obtain ⟨mb, h1, h2⟩ := I.mod.blt
  exact Calls.Name_function_global I.ok.kind hg (Calls.loadGlobal_builtin (by rw [I.ok.glob]; exact I.mod.glob.keeps I.bk) hm (by rw [I.ok.blt]; exact h1.keeps I.bk) ((h2 x hn).trans hv) h) hd
theorem pe_glob {x : Str} {v : V} {u : Value} {pos : Pos} (hg : Gl X x) (hm : X.mg x = some u) (r : RelV v u) (hd : (x == ("__debug__" : Str)) = false := by decide) : PE X (.Name x pos) (tC v) :=
  fun _ _ _ H _ I h => ld_glob I hg hm ⟨v, H, I, r, h⟩ hd
theorem pe_bltn {x : Str} {v : V} {u : Value} {pos : Pos} (hg : Gl X x) (hm : X.mg x = none) (hv : bootBuiltins x = some u) (r : RelV v u) (hn : x ≠ "__name__" := by decide) (hd : (x == ("__debug__" : Str)) = false := by decide) : PE X (.Name x pos) (tC v) :=
  fun _ _ _ H _ I h => ld_blt I hg hm hv ⟨v, H, I, r, h⟩ hn hd
variable {a b : Expr} {ta tb : TE} {pos : Pos}
def PC (X : Cx) (op : CmpOp) (a b : Expr) (t : TE) : Prop :=
  ∀ (pins : List (Addr × Obj)) (s : Shared) (σ : St) (H : Hp) (Q : VK), Inv X pins σ H s → t σ H Q →
    wpAny (model X.prog X.w) X.A (eval a X.env) (fun v s₁ => wpAny (model X.prog X.w) X.A (eval b X.env) (fun u s₂ => wpAny (model X.prog X.w) X.A (compareOp op v u) (EP X pins σ Q) X.xe s₂) X.xe s₁) X.xe s
theorem nobehind (b : Expr) {op : CmpOp} (h : op ≠ .In) (h2 : op ≠ .NotIn) : behindInMarks op b = false := by
  have e1 : (op == CmpOp.In) = false := by cases op <;> first | rfl | exact absurd rfl h
  have e2 : (op == CmpOp.NotIn) = false := by cases op <;> first | rfl | exact absurd rfl h2
  cases b <;> simp [behindInMarks, e1, e2]
def tB (t : TE) : TT := fun σ H Q => t σ H fun x H1 => ∃ c, x = .bl c ∧ Q c H1
theorem pt_cmp {op : CmpOp} {t : TE} (h : PC X op a b t) (h1 : behindInMarks op b = false := by first | exact nobehind _ (by decide) (by decide) | rfl) : PT X (.Compare a [op] [b] pos) (tB t) := by
  intro pins s σ H Q I hw
  refine wpAny_isTrue_Compare1 (thn (h pins s σ H _ I hw) fun v s1 h1 => thn h1 fun u s2 h2 => thn h2 fun c s3 ⟨x, H1, I1, r1, q1⟩ => ?_) h1
  obtain ⟨d, rfl, q⟩ := q1
  cases r1
  exact wpAny_truthy_bool ⟨H1, I1, q⟩
theorem pt_val {e : Expr} {t : TE} (h : PE X e t) (he : ∀ whole, isTrue e X.env whole = (do let v ← whole; standAt e.pos; holding [v] (truthy v)) := by intro _; rfl) : PT X e (tB t) := by
  intro pins s σ H Q I hw
  refine isTrue_plain (thn (h pins s σ H _ I hw) fun v s1 ⟨x, H1, I1, r1, q1⟩ => ?_) (he _)
  obtain ⟨d, rfl, q⟩ := q1
  cases r1
  exact wpAny_truthy_bool ⟨H1, I1, q⟩
variable {tA tB' : TT} {rest : List Expr}
def tAnd (t u : TT) : TT := fun σ H Q => t σ H fun c H1 => if c = true then u σ H1 Q else Q false H1
def tOr (t u : TT) : TT := fun σ H Q => t σ H fun c H1 => if c = true then Q true H1 else u σ H1 Q
def tNot (t : TT) : TT := fun σ H Q => t σ H fun c H1 => Q (!c) H1
theorem pw_and1 (ha : PT X a tA) : PW X (.BoolOp .And [a] pos) tA := by
  intro wh pins s σ H Q I h
  refine isTrue_and (thn (ha pins s σ H Q I h) fun c s1 e => ?_)
  cases c with
  | true => exact isTrue_and_nil e
  | false => exact e
theorem pw_or1 (ha : PT X a tA) : PW X (.BoolOp .Or [a] pos) tA := by
  intro wh pins s σ H Q I h
  refine isTrue_or (thn (ha pins s σ H Q I h) fun c s1 e => ?_)
  cases c with
  | false => exact isTrue_or_nil e
  | true => exact e
theorem pw_and (ha : PT X a tA) (hb : PW X (.BoolOp .And (b :: rest) pos) tB') : PW X (.BoolOp .And (a :: b :: rest) pos) (tAnd tA tB') := by
  intro wh pins s σ H Q I h
  refine isTrue_and (thn (ha pins s σ H _ I h) fun c s1 ⟨H1, I1, q1⟩ => ?_)
  cases c with
  | true => exact hb wh pins s1 σ H1 Q I1 q1
  | false => exact ⟨H1, I1, q1⟩
theorem pw_or (ha : PT X a tA) (hb : PW X (.BoolOp .Or (b :: rest) pos) tB') : PW X (.BoolOp .Or (a :: b :: rest) pos) (tOr tA tB') := by
  intro wh pins s σ H Q I h
  refine isTrue_or (thn (ha pins s σ H _ I h) fun c s1 ⟨H1, I1, q1⟩ => ?_)
  cases c with
  | true => exact ⟨H1, I1, q1⟩
  | false => exact hb wh pins s1 σ H1 Q I1 q1
theorem pt_not (ha : PT X a tA) : PT X (.UnaryOp .Not a pos) (tNot tA) := by
  intro pins s σ H Q I h
  exact isTrue_not (ha pins s σ H (fun c H1 => Q (!c) H1) I h)
def tAndV (ta tb : TE) : TE := fun σ H Q => ta σ H fun x H1 => ∃ c, x = .bl c ∧ if c = true then tb σ H1 Q else Q (.bl false) H1
def tNotV (ta : TE) : TE := fun σ H Q => ta σ H fun x H1 => ∃ c, x = .bl c ∧ Q (.bl (!c)) H1
theorem pe_one {op} {t : TE} (h : PE X a t) : PE X (.BoolOp op [a] pos) t := fun pins s σ H Q I hw => BoolOp_one (h pins s σ H Q I hw)
theorem pe_and (ha : PE X a ta) (hb : PE X (.BoolOp .And (b :: rest) pos) tb) : PE X (.BoolOp .And (a :: b :: rest) pos) (tAndV ta tb) := by
  intro pins s σ H Q I h
  refine BoolOp_and (thn (ha pins s σ H _ I h) fun v s1 ⟨x, H1, I1, r1, q1⟩ => ?_)
  obtain ⟨c, rfl, q1⟩ := q1
  cases r1
  refine wpAny_truthy_bool ?_
  cases c with
  | true => exact hb pins s1 σ H1 Q I1 q1
  | false => exact ⟨.bl false, H1, I1, rfl, q1⟩
theorem pe_not (ha : PE X a ta) : PE X (.UnaryOp .Not a pos) (tNotV ta) := by
  intro pins s σ H Q I h
  refine UnaryOp_ (thn (ha pins s σ H _ I h) fun v s1 ⟨x, H1, I1, r1, q1⟩ => ?_)
  obtain ⟨c, rfl, q1⟩ := q1
  cases r1
  exact not_of (wpAny_truthy_bool ⟨.bl (!c), H1, I1, rfl, q1⟩)
end
end L2
namespace L2
open PySem PySem.Spec PyProof.Rows
def SqL (K : PySem.W.Frag) (H : Hp) (a : Addr) (xs : List V) : Prop :=
  Rd H a (.lst xs) ∨
    ∃ (o : Obj) (its : Array Value) (n : Nat), K.lookup a = some o ∧ o.cls = .type "list" ∧ o.dict = none ∧ o.data = .seq its n ∧ its.size ≤ sizeLine ∧ Vals xs its.toList
def SqT (K : PySem.W.Frag) (H : Hp) (a : Addr) (xs : List V) : Prop :=
  Rd H a (.tup xs) ∨
    ∃ (o : Obj) (its : Array Value) (n : Nat), K.lookup a = some o ∧ o.cls = .type "tuple" ∧ o.data = .seq its n ∧ its.size ≤ sizeLine ∧ Vals xs its.toList
def absV : Value → Option V
  | .none => some .non
  | .bool b => some (.bl b)
  | .int i _ => some (.int i)
  | .str x _ => some (.str x)
  | .bytes b _ => some (.byt b)
  | .float b _ => some (.flt b)
  | .ref a => some (.ref a)
  | .type n => some (.ty n)
  | _ => none
theorem RelV.abs {x : V} {u : Value} (r : RelV x u) : absV u = some x := by
  cases x with
  | non => cases r; rfl
  | bl _ => cases r; rfl
  | int _ => obtain ⟨t, rfl⟩ := r; rfl
  | str _ => obtain ⟨t, rfl⟩ := r; rfl
  | byt _ => obtain ⟨t, rfl⟩ := r; rfl
  | flt _ => obtain ⟨t, rfl⟩ := r; rfl
  | ref _ => cases r; rfl
  | ty _ => cases r; rfl
theorem RelV.inj {x y : V} {u : Value} (r : RelV x u) (q : RelV y u) : x = y := Option.some.inj (r.abs.symm.trans q.abs)
theorem Vals.inj : ∀ {xs ys : List V} {us : List Value}, Vals xs us → Vals ys us → xs = ys
  | _, _, _, .nil, .nil => rfl
  | _, _, _, .cons r t, .cons r' t' => by rw [r.inj r', Vals.inj t t']
section
variable {X : Cx} {pins : List (Addr × Obj)} {σ : St} {H : Hp} {s : Shared} {a : Addr} {xs ys : List V}
theorem SqL.of {K : PySem.W.Frag} (h : H a = some (.lst xs)) : SqL K H a xs := .inl (.inl h)
theorem SqT.of {K : PySem.W.Frag} (h : H a = some (.tup xs)) : SqT K H a xs := .inl (.inl h)
theorem Inv.list (I : Inv X pins σ H s) (h : SqL X.K H a xs) : ∃ its : List Value, Vals xs its ∧ PlainL s.heap a its.toArray ∧ xs.length ≤ sizeLine := by
  rcases h with h | ⟨o, its, n, hk, hc, hd, hs, hz, r⟩
  · obtain ⟨z, its, n, r, e⟩ := h.ok I.hok
    exact ⟨its, r, ⟨_, n, e, rfl, rfl, rfl⟩, z⟩
  · refine ⟨its.toList, r, ⟨o, n, I.kIn a o hk, hc, hd, by simpa using hs⟩, ?_⟩
    have e := r.length
    simp only [Array.length_toList] at e
    omega
theorem Inv.tuple (I : Inv X pins σ H s) (h : SqT X.K H a xs) : ∃ its : List Value, Vals xs its ∧ IsTup s.heap a its.toArray ∧ xs.length ≤ sizeLine := by
  rcases h with h | ⟨o, its, n, hk, hc, hs, hz, r⟩
  · obtain ⟨z, its, r, p⟩ := h.ok I.hok
    exact ⟨its, r, p.isTup, z⟩
  · refine ⟨its.toList, r, ⟨o, I.kIn a o hk, hc, n, by simpa using hs⟩, ?_⟩
    have e := r.length
    simp only [Array.length_toList] at e
    omega
theorem Inv.list_inj (I : Inv X pins σ H s) (h : SqL X.K H a xs) (h' : SqL X.K H a ys) : xs = ys := by
  obtain ⟨its, r, ⟨o, n, e, _, _, d⟩, _⟩ := I.list h
  obtain ⟨its', r', ⟨o', n', e', _, _, d'⟩, _⟩ := I.list h'
  rw [e] at e'; cases e'
  rw [d] at d'
  injection d' with d1 _
  have : its = its' := by simpa using congrArg Array.toList d1
  subst this
  exact r.inj r'
theorem Inv.tuple_inj (I : Inv X pins σ H s) (h : SqT X.K H a xs) (h' : SqT X.K H a ys) : xs = ys := by
  obtain ⟨its, r, ⟨o, e, _, n, d⟩, _⟩ := I.tuple h
  obtain ⟨its', r', ⟨o', e', _, n', d'⟩, _⟩ := I.tuple h'
  rw [e] at e'; cases e'
  rw [d] at d'
  injection d' with d1 _
  have : its = its' := by simpa using congrArg Array.toList d1
  subst this
  exact r.inj r'
end
abbrev Cx.wish (X : Cx) (E : Value → Shared → Prop) : Cx := { X with xe := E }
abbrev Cx.nox (X : Cx) : Cx := X.wish fun _ _ => False
theorem Cx.Ok.wish {X : Cx} (ok : X.Ok) (E : Value → Shared → Prop) : (X.wish E).Ok :=
  ⟨ok.mod, ok.kind, ok.glob, ok.blt, ok.above, ok.inj, ok.has, ok.cab, ok.hd, ok.frames, ok.stk, ok.exf, ok.bs, ok.bsz, ok.noex, ok.exfs, ok.funs, ok.frf⟩
theorem Cx.Ok.unwish {X : Cx} {E : Value → Shared → Prop} (ok : (X.wish E).Ok) : X.Ok :=
  ⟨ok.mod, ok.kind, ok.glob, ok.blt, ok.above, ok.inj, ok.has, ok.cab, ok.hd, ok.frames, ok.stk, ok.exf, ok.bs, ok.bsz, ok.noex, ok.exfs, ok.funs, ok.frf⟩
section
variable {X : Cx} {pins : List (Addr × Obj)} {σ : St} {H : Hp} {s : Shared} {E : Value → Shared → Prop}
theorem Inv.wish (I : Inv X pins σ H s) (E : Value → Shared → Prop) : Inv (X.wish E) pins σ H s := ⟨I.ok.wish E, I.os, I.bare, I.base, I.loc, I.cell, I.free, I.freeC, I.pin, I.hok, I.len⟩
theorem Inv.unwish (I : Inv (X.wish E) pins σ H s) : Inv X pins σ H s := ⟨I.ok.unwish, I.os, I.bare, I.base, I.loc, I.cell, I.free, I.freeC, I.pin, I.hok, I.len⟩
theorem SP.unwish {D : Ends} {f : Flow} {s' : Shared} (h : SP (X.wish E) pins D f s') : SP X pins D f s' := by
  cases f with
  | next => obtain ⟨σ', H', I, q⟩ := h; exact ⟨σ', H', I.unwish, q⟩
  | brk => obtain ⟨σ', H', I, q⟩ := h; exact ⟨σ', H', I.unwish, q⟩
  | cont => obtain ⟨σ', H', I, q⟩ := h; exact ⟨σ', H', I.unwish, q⟩
  | ret u => obtain ⟨v, σ', H', I, r, q⟩ := h; exact ⟨v, σ', H', I.unwish, r, q⟩
theorem PE.nox {e : Expr} {t : TE} (h : PE X.nox e t) : PE X e t := fun pins s σ H Q I hw =>
  wpAny_mono (h pins s σ H Q (I.wish _) hw) (fun _ _ ⟨v, H', I', r, q⟩ => ⟨v, H', I'.unwish, r, q⟩) fun _ _ z => False.elim z
theorem PT.nox {e : Expr} {t : TT} (h : PT X.nox e t) : PT X e t := fun pins s σ H Q I hw =>
  wpAny_mono (h pins s σ H Q (I.wish _) hw) (fun _ _ ⟨H', I', q⟩ => ⟨H', I'.unwish, q⟩) fun _ _ z => False.elim z
theorem PSs.nox {st : List Stmt} {t : TS} (h : PSs X.nox st t) : PSs X st t := fun pins s σ H D I hw =>
  wpAny_mono (h pins s σ H D (I.wish _) hw) (fun _ _ q => q.unwish) fun _ _ z => False.elim z
end
section
variable {X : Cx} {st : Stmt} {rest : List Stmt} {t u : TS} {e : Expr} {te : TE} {pos : Pos}
def tNext : TS := fun D σ H => D.nx σ H
def tSeq (t u : TS) : TS := fun D σ H => t { D with nx := u D } σ H
theorem pss_nil : PSs X [] tNext := fun _ _ σ H _ I h => wpAny_execs_nil ⟨σ, H, I, h⟩
theorem pss_cons (h1 : PS X st t) (h2 : PSs X rest u) : PSs X (st :: rest) (tSeq t u) := by
  intro pins s σ H D I h
  refine wpAny_execs_cons (thn (h1 pins s σ H { D with nx := u D } I h) fun f s1 q => ?_)
  cases f with
  | next =>
    obtain ⟨σ', H', I', q⟩ := q
    exact h2 pins s1 σ' H' D I' q
  | ret v => exact q
  | brk => exact q
  | cont => exact q
theorem pss_one (h1 : PS X st t) : PSs X [st] t := by
  intro pins s σ H D I h
  refine wpAny_execs_cons (thn (h1 pins s σ H D I h) fun f s1 q => ?_)
  cases f with
  | next => exact wpAny_execs_nil q
  | ret v => exact q
  | brk => exact q
  | cont => exact q
theorem Inv.quiet {pins : List (Addr × Obj)} {σ : St} {H : Hp} {s : Shared} (I : Inv X pins σ H s) : interactive X.env = false := by simp [interactive, I.ok.kind]
def tDrop (te : TE) : TS := fun D σ H => te σ H fun _ H1 => D.nx σ H1
theorem ps_expr (he : PE X e te) (hs : swapsWith e none pos.line X.env = pure false := by rfl) : PS X (.Expr e pos) (tDrop te) := by
  intro pins s σ H D I h
  exact wpAny_Expr_any (thn (he pins s σ H _ I h) fun v s1 ⟨x, H1, I1, r1, q1⟩ => ⟨σ, H1, I1, q1⟩) I.quiet hs
def tRet (te : TE) : TS := fun D σ H => te σ H D.rt
theorem ps_ret (he : PE X e te) : PS X (.Return (some e) pos) (tRet te) := by
  intro pins s σ H D I h
  exact wpAny_Return_some (thn (he pins s σ H _ I h) fun v s1 ⟨x, H1, I1, r1, q1⟩ => ⟨x, σ, H1, I1, r1, q1⟩)
def tIfS (c : TT) (t u : TS) : TS := fun D σ H => c σ H fun b H1 => if b = true then t D σ H1 else u D σ H1
theorem ps_if {c : Expr} {a b : List Stmt} {tc : TT} (hc : PT X c tc) (ha : PSs X a t) (hb : PSs X b u) : PS X (.If c a b pos) (tIfS tc t u) := by
  intro pins s σ H D I h
  refine wpAny_If (thn (hc pins s σ H _ I h) fun d s1 ⟨H1, I1, q1⟩ => ?_)
  cases d with
  | true => exact ha pins s1 σ H1 D I1 q1
  | false => exact hb pins s1 σ H1 D I1 q1
def tNever : TS := fun _ _ _ => False
theorem ps_never : PS X st tNever := fun _ _ _ _ _ _ h => h.elim
end
abbrev TG := V → St → Hp → (St → Hp → Prop) → Prop
abbrev TGs := List V → St → Hp → (St → Hp → Prop) → Prop
def PG (X : Cx) (target : Expr) (t : TG) : Prop :=
  ∀ (pins : List (Addr × Obj)) (s : Shared) (σ : St) (H : Hp) (v : V) (u : Value) (Q : St → Hp → Prop), Inv X pins σ H s → RelV v u → t v σ H Q →
    wpAny (model X.prog X.w) X.A (assign target X.env u) (fun _ s' => ∃ σ' H', Inv X pins σ' H' s' ∧ Q σ' H') X.xe s
def PGs (X : Cx) (ts : List Expr) (t : TGs) : Prop :=
  ∀ (pins : List (Addr × Obj)) (s : Shared) (σ : St) (H : Hp) (vs : List V) (us : List Value) (Q : St → Hp → Prop), Inv X pins σ H s → Vals vs us → t vs σ H Q →
    wpAny (model X.prog X.w) X.A (assignInOrder ((assignEach ts X.env).map (·.2)) us) (fun _ s' => ∃ σ' H', Inv X pins σ' H' s' ∧ Q σ' H') X.xe s
abbrev TSet := V → V → V → Hp → (Hp → Prop) → Prop
def PSet (X : Cx) (t : TSet) : Prop :=
  ∀ (pins : List (Addr × Obj)) (s : Shared) (σ : St) (H : Hp) (o i v : V) (ov iv u : Value) (Q : Hp → Prop), Inv X pins σ H s → RelV o ov → RelV i iv → RelV v u → t o i v H Q →
    wpAny (model X.prog X.w) X.A (setItem ov iv u) (fun _ s' => ∃ H', Inv X pins σ H' s' ∧ Q H') X.xe s
section
variable {X : Cx} {pos : Pos}
def gName (i : Nat) : TG := fun v σ H Q => Q (σ.set i (some v)) H
theorem pg_name {i : Nat} {x : Str} (hN : X.N.Nodup) (hi : X.N[i]? = some x) (hx : Loc X.env.scope x) (hf : X.fn x = true ∨ X.env.scope.names.lookup x = some .local := by first | exact .inl rfl | exact .inr rfl | assumption) : PG X (.Name x pos) (gName i) := by
  intro pins s σ H v u Q I r h
  exact wpAny_assign_Name (store_ok I hN hi hx r (fun s' I' => ⟨_, H, I', h⟩) hf)
def gNil : TGs := fun vs σ H Q => vs = [] ∧ Q σ H
def gCons (t : TG) (u : TGs) : TGs := fun vs σ H Q => ∃ v r, vs = v :: r ∧ t v σ H fun σ' H' => u r σ' H' Q
theorem pgs_nil : PGs X [] gNil := by
  intro pins s σ H vs us Q I r h
  obtain ⟨e, h⟩ := h
  subst e
  cases r
  exact assignInOrder_nil ⟨σ, H, I, h⟩
theorem pgs_cons {e : Expr} {es : List Expr} {t : TG} {u : TGs} (h1 : PG X e t) (h2 : PGs X es u)
    (hs : (assignEach (e :: es) X.env).map (·.2) = assign e X.env :: (assignEach es X.env).map (·.2) := by rfl) : PGs X (e :: es) (gCons t u) := by
  intro pins s σ H vs us Q I r h
  obtain ⟨v, vr, e1, h⟩ := h
  subst e1
  cases r with
  | cons r rr =>
    rw [hs]
    refine assignInOrder_cons (thn (h1 pins s σ H _ _ _ I r h) fun _ s1 ⟨σ1, H1, I1, q1⟩ => ?_)
    exact h2 pins s1 σ1 H1 _ _ Q I1 rr q1
def gTup (K : PySem.W.Frag) (n : Nat) (t : TGs) : TG := fun v σ H Q => ∃ a xs, v = .ref a ∧ SqT K H a xs ∧ xs.length = n ∧ t xs σ H Q
theorem pg_tup {es : List Expr} {k : Nat} {t : TGs} {n : Nat} (hc : X.calm = true) (h : PGs X es t)
    (hn : (assignEach es X.env).length = n := by rfl) (hst : (assignEach es X.env).findIdx? (·.1) = none := by rfl) : PG X (.Tuple es k pos) (gTup X.K n t) := by
  intro pins s σ H v u Q I r hw
  obtain ⟨a, xs, e1, hq, hl, hw⟩ := hw
  subst e1
  cases r
  obtain ⟨its, rv, ht, hz⟩ := I.tuple hq
  refine assign_Tuple_tuple (I.ok.hd hc) ht (by simp [hn, ← hl, rv.length]) hst fun h' hx => ?_
  have I1 : Inv X pins σ H { s with heap := h' } := I.kept (t' := s.toks) fun b o e => hx b o (Nat.ne_of_lt (Heap.lt_size e)) e
  exact h pins _ σ H xs _ Q I1 (by simpa using rv) hw
def gSub (to ti : TE) (t : TSet) : TG := fun v σ H Q => to σ H fun o H1 => ti σ H1 fun i H2 => t o i v H2 fun H3 => Q σ H3
theorem pg_sub {o i : Expr} {to ti : TE} {t : TSet} (ho : PE X o to) (hi : PE X i ti) (hs : PSet X t)
    (ha : ∀ v, assign (.Subscript o i pos) X.env v = (do
      let ov ← holding [v] (eval o X.env)
      let iv ← holding [v, ov] (eval i X.env)
      standAt pos
      holding [v, ov, iv] (setItem ov iv v)
      release [v, ov, iv] []) := by intro _; rfl) : PG X (.Subscript o i pos) (gSub to ti t) := by
  intro pins s σ H v u Q I r h
  rw [ha]
  refine wpAny_bind (wpAny_holding (thn (ho pins s σ H _ I h) fun ov s1 ⟨x, H1, I1, r1, q1⟩ => ?_))
  refine wpAny_bind (wpAny_holding (thn (hi pins s1 σ H1 _ I1 q1) fun iv s2 ⟨y, H2, I2, r2, q2⟩ => ?_))
  refine wpAny_bind (wpAny_standAt (wpAny_bind (wpAny_holding (thn (hs pins s2 σ H2 x y v ov iv u _ I2 r1 r2 r q2) fun _ s3 ⟨H3, I3, q3⟩ => ?_))))
  exact wpAny_release ⟨σ, H3, I3, q3⟩
def tAsg (te : TE) (g : TG) : TS := fun D σ H => te σ H fun x H1 => g x σ H1 D.nx
theorem ps_asg {tg e : Expr} {te : TE} {g : TG} (he : PE X e te) (hg : PG X tg g) (hs : swapsWithSole [tg] e pos.line X.env = pure false := by rfl) (hw : swappedStores [tg] e X.env = pure none := by rfl)
    (h1 : (assignEach [tg] X.env).map (·.2) = [assign tg X.env] := by rfl) : PS X (.Assign [tg] e pos) (tAsg te g) := by
  intro pins s σ H D I h
  refine wpAny_Assign_stores (thn (he pins s σ H _ I h) fun v s1 ⟨x, H1, I1, r1, q1⟩ => ?_) hs hw
  rw [h1]
  exact thn (hg pins s1 σ H1 x v _ I1 r1 q1) fun _ s2 q => q
theorem ps_set {i : Nat} {x : Str} {e : Expr} {te : TE} {pos' : Pos} (hN : X.N.Nodup) (hi : X.N[i]? = some x) (hx : Loc X.env.scope x) (he : PE X e te) (hs : swapsWith e (some (.Name x pos')) pos.line X.env = pure false := by rfl) (hf : X.fn x = true ∨ X.env.scope.names.lookup x = some .local := by first | exact .inl rfl | exact .inr rfl | assumption) :
    PS X (.Assign [.Name x pos'] e pos) (tAsg te (gName i)) := by
  intro pins s σ H D I h
  refine wpAny_Assign_Name (thn (he pins s σ H _ I h) fun v s1 ⟨y, H1, I1, r1, q1⟩ => ?_) hs
  exact store_ok I1 hN hi hx r1 (fun s2 I2 => ⟨_, H1, I2, q1⟩) hf
end
structure It where
  go : Nat → Hp → Prop
  yld : Nat → Hp → V → Hp → Prop
  stop : Nat → Hp → Prop
def FpOk (X : Cx) (pins : List (Addr × Obj)) (H : Hp) (b : Addr) : Prop :=
  H b = none ∧ b ≠ X.env.locals ∧ b ∉ X.fs ∧ (b ∈ X.ex ∨ X.s_0.heap.objs.size ≤ b) ∧ (∀ x c, X.env.cells.lookup x = some c → c ≠ b) ∧ ∀ p ∈ X.pn ++ pins, p.1 ≠ b
theorem Inv.fpOk {X : Cx} {pins : List (Addr × Obj)} {σ : St} {H H' : Hp} {s : Shared} {b : Addr} (I : Inv X pins σ H s) (hb : s.heap.objs.size ≤ b) (hn : H' b = none) : FpOk X pins H' b := by
  refine ⟨hn, Nat.ne_of_gt (Nat.lt_of_lt_of_le I.lt hb), I.nofs hb, .inr (Nat.le_trans I.sz hb), fun x c e z => ?_, fun p hp z => ?_⟩
  · obtain ⟨v, q⟩ := I.cell x c e
    exact absurd (Nat.lt_of_lt_of_le q.lt (by rw [z]; exact hb)) (Nat.lt_irrefl _)
  · exact absurd (Nat.lt_of_lt_of_le (Heap.lt_size (I.pin p hp).1) (by rw [z]; exact hb)) (Nat.lt_irrefl _)
structure Turn (P : Program) (w : World) (K : PySem.W.Frag) (tg : Expr) (J : It) (fp : List Addr) (it : Addr) (tn : Nat → Heap → Prop) : Prop where
  mem : it ∈ fp
  obj : ∀ i h, tn i h → ∀ b ∈ fp, ∃ o, h.get? b = some o ∧ ∀ v, o.data ≠ .cell v
  keep : ∀ i h h', tn i h → (∀ b ∈ fp, ∀ o, h.get? b = some o → h'.get? b = some o) → tn i h'
  item : ∀ (X : Cx), X.prog = P → X.w = w → X.K = K → X.calm = true → ∀ (i : Nat) (pins : List (Addr × Obj)) (s : Shared) (σ : St) (H : Hp) (E : Value → Shared → Prop), Inv X pins σ H s → (∀ b ∈ fp, FpOk X pins H b) → tn i s.heap → J.go i H →
    wpAny (model P w) X.A (pyNext (.ref it)) (fun r s1 => ∃ u, r = some u ∧
      wpAny (model P w) X.A (letOwnedTupleGo tg (.ref it) u) (fun _ s2 => ∃ x H', Inv X pins σ H' s2 ∧ RelV x u ∧ J.yld i H x H' ∧ tn (i + 1) s2.heap ∧ ∀ b ∈ fp, H' b = none) E s1) E s
  done : ∀ (X : Cx), X.prog = P → X.w = w → X.K = K → X.calm = true → ∀ (i : Nat) (pins : List (Addr × Obj)) (s : Shared) (σ : St) (H : Hp) (E : Value → Shared → Prop), Inv X pins σ H s → (∀ b ∈ fp, FpOk X pins H b) → tn i s.heap → J.stop i H →
    wpAny (model P w) X.A (pyNext (.ref it)) (fun r s1 => r = none ∧ Inv X pins σ H s1) E s
  self : ∀ (A : Around) (i : Nat) (s : Shared) (Q : Value → Shared → Prop) (E : Value → Shared → Prop), tn i s.heap → Q (.ref it) s → wpAny (model P w) A (pyIter (.ref it)) Q E s
abbrev TI := St → Hp → (It → Hp → Prop) → Prop
def PIE (X : Cx) (pins : List (Addr × Obj)) (σ : St) (tg : Expr) (R : It → Hp → Prop) (itv : Value) (s2 : Shared) : Prop :=
  ∃ (it : Addr) (fp : List Addr) (tn : Nat → Heap → Prop) (J : It) (H' : Hp), itv = .ref it ∧ Inv X pins σ H' s2 ∧ Turn X.prog X.w X.K tg J fp it tn ∧ tn 0 s2.heap ∧ (∀ b ∈ fp, FpOk X pins H' b) ∧ R J H'
def PI (X : Cx) (tg iter : Expr) (wi : TI) : Prop :=
  ∀ (pins : List (Addr × Obj)) (s : Shared) (σ : St) (H : Hp) (R : It → Hp → Prop), Inv X pins σ H s → wi σ H R →
    wpAny (model X.prog X.w) X.A (eval iter X.env) (fun v s1 => wpAny (model X.prog X.w) X.A (pyIter v) (PIE X pins σ tg R) X.xe s1) X.xe s
theorem go_of {M : Model} {A : Around} {E : Value → Shared → Prop} {s : Shared} {tg : Expr} {it : Addr} {u : Value} {o : Obj} {n : String} {vs : Array Value} {Q : Unit → Shared → Prop} (ho : s.heap.get? it = some o) (hc : o.cls = .type n) (hd : o.data = .fields vs)
    (hn : ["enumerate", "zip", "dict_itemiterator", "dict_reverseitemiterator", "odict_iterator", "itertools.zip_longest", "itertools.pairwise"].contains n = false) (hQ : Q () s) : wpAny M A (letOwnedTupleGo tg (.ref it) u) Q E s := by
  unfold letOwnedTupleGo
  cases tg <;> first
    | exact wpAny_pure hQ
    | (cases u <;> first
        | exact wpAny_pure hQ
        | (refine wpAny_bind (wpAny_load ho ?_)
           rw [hc, hd]
           show wpAny M A (if (["enumerate", "zip", "dict_itemiterator", "dict_reverseitemiterator", "odict_iterator", "itertools.zip_longest", "itertools.pairwise"].contains n && vs[0]? == some (rawInt _)) = true then _ else _) Q E s
           rw [if_neg (by intro h; rw [hn, Bool.false_and] at h; cases h)]
           exact wpAny_pure hQ))
def Itl (K : PySem.W.Frag) (a : Addr) : It :=
  ⟨fun i H => ∃ xs x, SqL K H a xs ∧ xs[i]? = some x, fun i H x H' => H' = H ∧ ∀ xs, SqL K H a xs → xs[i]? = some x, fun i H => ∃ xs, SqL K H a xs ∧ xs.length ≤ i⟩
def Itt (K : PySem.W.Frag) (a : Addr) : It :=
  ⟨fun i H => ∃ xs x, SqT K H a xs ∧ xs[i]? = some x, fun i H x H' => H' = H ∧ ∀ xs, SqT K H a xs → xs[i]? = some x, fun i H => ∃ xs, SqT K H a xs ∧ xs.length ≤ i⟩
def Itr (lo : Int) (n : Nat) : It := ⟨fun i _ => i < n, fun i H x H' => H' = H ∧ x = .int (lo + i), fun i _ => n ≤ i⟩
theorem turn_list {P : Program} {w : World} {K : PySem.W.Frag} {tg : Expr} (a it : Addr) : Turn P w K tg (Itl K a) [it] it (fun i h => h.IsListIter it a i) where
  mem := by simp
  obj := fun i h st b hb => by
    have e : b = it := by simpa using hb
    subst e
    obtain ⟨o, e, c, d⟩ := st
    exact ⟨o, e, fun v z => by rw [d] at z; cases z⟩
  keep := fun i h h' st k => st.at fun o e => k it (by simp) o e
  item := by
    intro X hP hw hK hc i pins s σ H E I hf st hg
    subst hP hw hK
    obtain ⟨xs, x, hq, hx⟩ := hg
    obtain ⟨its, rv, p, hz⟩ := I.list hq
    obtain ⟨u, hu, ru⟩ := rv.get hx
    obtain ⟨f0, f1, f2, f3, f4, f5⟩ := hf it (by simp)
    refine wpAny_pyNext_list_item st p.isList (x := u) (by simpa using hu) fun h' st' sb => ?_
    have I1 : Inv X pins σ H { s with heap := h' } := I.turned (t' := s.toks) (fun b o hb e => (sb.2 b hb).trans e) f0 f1 f3 f4 f5
    obtain ⟨o, e, c, d⟩ := id st'
    exact ⟨u, rfl, go_of (s := { s with heap := h' }) e c d (by decide) ⟨x, H, I1, ru, ⟨rfl, fun ys hy => by rw [I.list_inj hy hq]; exact hx⟩, st', fun b hb => (hf b hb).1⟩⟩
  done := by
    intro X hP hw hK hc i pins s σ H E I hf st hg
    subst hP hw hK
    obtain ⟨xs, hq, hx⟩ := hg
    obtain ⟨its, rv, p, hz⟩ := I.list hq
    obtain ⟨f0, f1, f2, f3, f4, f5⟩ := hf it (by simp)
    have hl := rv.length
    exact wpAny_pyNext_list_end (I.ok.hd hc) st p.isList (by simp; omega) fun h' eb => ⟨rfl, I.turned (t' := s.toks) (fun b o hb e => eb b o hb e) f0 f1 f3 f4 f5⟩
  self := fun _ _ _ _ _ st h => wpAny_pyIter_listiter st h
theorem turn_tuple {P : Program} {w : World} {K : PySem.W.Frag} {tg : Expr} (a it : Addr) : Turn P w K tg (Itt K a) [it] it (fun i h => h.IsTupleIter it a i) where
  mem := by simp
  obj := fun i h st b hb => by
    have e : b = it := by simpa using hb
    subst e
    obtain ⟨o, e, c, d⟩ := st
    exact ⟨o, e, fun v z => by rw [d] at z; cases z⟩
  keep := fun i h h' st k => st.at fun o e => k it (by simp) o e
  item := by
    intro X hP hw hK hc i pins s σ H E I hf st hg
    subst hP hw hK
    obtain ⟨xs, x, hq, hx⟩ := hg
    obtain ⟨its, rv, p, hz⟩ := I.tuple hq
    obtain ⟨u, hu, ru⟩ := rv.get hx
    obtain ⟨f0, f1, f2, f3, f4, f5⟩ := hf it (by simp)
    refine wpAny_pyNext_tuple_item st (show s.heap.IsTuple a its.toArray from p) (x := u) (by simpa using hu) fun h' st' sb => ?_
    have I1 : Inv X pins σ H { s with heap := h' } := I.turned (t' := s.toks) (fun b o hb e => (sb.2 b hb).trans e) f0 f1 f3 f4 f5
    obtain ⟨o, e, c, d⟩ := id st'
    exact ⟨u, rfl, go_of (s := { s with heap := h' }) e c d (by decide) ⟨x, H, I1, ru, ⟨rfl, fun ys hy => by rw [I.tuple_inj hy hq]; exact hx⟩, st', fun b hb => (hf b hb).1⟩⟩
  done := by
    intro X hP hw hK hc i pins s σ H E I hf st hg
    subst hP hw hK
    obtain ⟨xs, hq, hx⟩ := hg
    obtain ⟨its, rv, p, hz⟩ := I.tuple hq
    obtain ⟨f0, f1, f2, f3, f4, f5⟩ := hf it (by simp)
    have hl := rv.length
    exact wpAny_pyNext_tuple_end (I.ok.hd hc) st (show s.heap.IsTuple a its.toArray from p) (by simp; omega) fun h' eb => ⟨rfl, I.turned (t' := s.toks) (fun b o hb e => eb b o hb e) f0 f1 f3 f4 f5⟩
  self := fun _ _ _ _ _ st h => wpAny_pyIter_tupleiter st h
theorem turn_range {P : Program} {w : World} {K : PySem.W.Frag} {tg : Expr} (it : Addr) (lo : Int) (n : Nat) : Turn P w K tg (Itr lo n) [it] it (fun i h => IsRangeIter h it (lo + (i : Nat) * 1) ((n : Int) - (i : Nat)) 1) where
  mem := by simp
  obj := fun i h st b hb => by
    have e : b = it := by simpa using hb
    subst e
    exact ⟨_, st, fun v z => by
      have z' : Data.fields _ = Data.cell v := z
      cases z'⟩
  keep := fun i h h' st k => k it (by simp) _ st
  item := by
    intro X hP hw hK hc i pins s σ H E I hf st hg
    subst hP hw hK
    obtain ⟨f0, f1, f2, f3, f4, f5⟩ := hf it (by simp)
    have W := Walks.range (prog := X.prog) (w := X.w) (I.ok.hd hc) it lo 1 n
    refine W.item i s _ _ hg st fun v h' tk hv st' kk => ?_
    obtain ⟨t, rfl⟩ := hv
    have I1 : Inv X pins σ H { s with heap := h', toks := tk } := I.turned (fun b o hb e => kk b o (by simpa using hb) e) f0 f1 f3 f4 f5
    refine ⟨_, rfl, go_of (s := { s with heap := h', toks := tk }) (n := "range_iterator") st' rfl rfl (by decide) ⟨.int (lo + i), H, I1, ⟨t, ?_⟩, ⟨rfl, rfl⟩, st', fun b hb => (hf b hb).1⟩⟩
    rw [Int.mul_one]
  done := by
    intro X hP hw hK hc i pins s σ H E I hf st hg
    subst hP hw hK
    obtain ⟨f0, f1, f2, f3, f4, f5⟩ := hf it (by simp)
    exact wpAny_pyNext_range_end (I.ok.hd hc) st (by have : n ≤ i := hg; omega) fun h' eb => ⟨rfl, I.turned (t' := s.toks) (fun b o hb e => eb b o hb e) f0 f1 f3 f4 f5⟩
  self := fun _ _ _ _ _ st h => wpAny_pyIter_rangeiter st h
end L2
namespace L2
open PySem PySem.Spec PyProof.Rows
section
variable {X : Cx} {tg : Expr}
def iList (K : PySem.W.Frag) (tl : TE) : TI := fun σ H R => tl σ H fun x H1 => ∃ a, x = .ref a ∧ (∃ xs, SqL K H1 a xs) ∧ R (Itl K a) H1
def iTup (K : PySem.W.Frag) (tl : TE) : TI := fun σ H R => tl σ H fun x H1 => ∃ a, x = .ref a ∧ (∃ xs, SqT K H1 a xs) ∧ R (Itt K a) H1
theorem pi_list {l : Expr} {tl : TE} (hl : PE X l tl) : PI X tg l (iList X.K tl) := by
  intro pins s σ H R I h
  refine thn (hl pins s σ H _ I h) fun v s1 ⟨x, H1, I1, r1, q1⟩ => ?_
  obtain ⟨a, e, ⟨xs, hq⟩, q⟩ := q1
  subst e
  cases r1
  obtain ⟨its, rv, p, hz⟩ := I1.list hq
  refine wpAny_pyIter_list p.isList ?_
  refine ⟨s1.heap.objs.size, [s1.heap.objs.size], _, _, H1, rfl, I1.kept (t' := s1.toks) fun b o e => Heap.get?_push_of_some _ e, turn_list a _, ⟨_, Heap.get?_push_size _ rfl, rfl, rfl⟩, fun b hb => ?_, q⟩
  have e : b = s1.heap.objs.size := by simpa using hb
  subst e
  exact I1.fpOk (Nat.le_refl _) (I1.hok.fresh (Nat.le_refl _))
theorem pi_tup {l : Expr} {tl : TE} (hl : PE X l tl) : PI X tg l (iTup X.K tl) := by
  intro pins s σ H R I h
  refine thn (hl pins s σ H _ I h) fun v s1 ⟨x, H1, I1, r1, q1⟩ => ?_
  obtain ⟨a, e, ⟨xs, hq⟩, q⟩ := q1
  subst e
  cases r1
  obtain ⟨its, rv, p, hz⟩ := I1.tuple hq
  refine wpAny_pyIter_tuple (show s1.heap.IsTuple a its.toArray from p) ?_
  refine ⟨s1.heap.objs.size, [s1.heap.objs.size], _, _, H1, rfl, I1.kept (t' := s1.toks) fun b o e => Heap.get?_push_of_some _ e, turn_tuple a _, ⟨_, Heap.get?_push_size _ rfl, rfl, rfl⟩, fun b hb => ?_, q⟩
  have e : b = s1.heap.objs.size := by simpa using hb
  subst e
  exact I1.fpOk (Nat.le_refl _) (I1.hok.fresh (Nat.le_refl _))
theorem range_it {pins : List (Addr × Obj)} {σ : St} {H : Hp} {s : Shared} {R : It → Hp → Prop} {E : Value → Shared → Prop} {lo hi : Int} {t u v : Tok} {tk : Nat} (I : Inv X pins σ H s) (h1 : -(2 ^ 62) ≤ lo) (h2 : lo < 2 ^ 62) (h3 : -(2 ^ 62) ≤ hi) (h4 : hi < 2 ^ 62)
    (q : R (Itr lo (hi - lo).toNat) H) : wpAny (model X.prog X.w) X.A (pyIter (.ref s.heap.objs.size)) (PIE X pins σ tg R) E { s with heap := s.heap.push { cls := .type "range", data := .fields #[.int lo t, .int hi u, .int 1 v] }, toks := tk } := by
  refine wpAny_pyIter_range (IsRange.new ..) (small_one h1 h2 h3 h4) ?_
  have I1 : Inv X pins σ H { s with heap := s.heap.push { cls := .type "range", data := .fields #[.int lo t, .int hi u, .int 1 v] }, toks := tk } := I.kept fun b o e => Heap.get?_push_of_some _ e
  refine ⟨(s.heap.push { cls := .type "range", data := .fields #[.int lo t, .int hi u, .int 1 v] }).objs.size, [(s.heap.push { cls := .type "range", data := .fields #[.int lo t, .int hi u, .int 1 v] }).objs.size], _, _, H, rfl,
    I1.kept (t' := tk) fun b o e => Heap.get?_push_of_some _ e, turn_range _ lo (hi - lo).toNat, ?_, fun b hb => ?_, q⟩
  · have e1 : lo + ((0 : Nat) : Int) * 1 = lo := by simp
    have e2 : (((hi - lo).toNat : Nat) : Int) - ((0 : Nat) : Int) = Builtin.Range.rangeSize lo hi 1 := by rw [rangeSize_one]; split <;> omega
    show IsRangeIter _ _ (lo + ((0 : Nat) : Int) * 1) ((((hi - lo).toNat : Nat) : Int) - ((0 : Nat) : Int)) 1
    rw [e1, e2]
    exact Heap.get?_push_size _ rfl
  · have e : b = (s.heap.push { cls := .type "range", data := .fields #[.int lo t, .int hi u, .int 1 v] }).objs.size := by simpa using hb
    subst e
    exact I1.fpOk (Nat.le_refl _) (I1.hok.fresh (Nat.le_refl _))
def iRng1 (ta : TA) : TI := fun σ H R => ta σ H fun vs H1 => ∃ j : Int, vs = [.int j] ∧ -(2 ^ 62) ≤ j ∧ j < 2 ^ 62 ∧ R (Itr 0 j.toNat) H1
def iRng2 (ta : TA) : TI := fun σ H R => ta σ H fun vs H1 => ∃ i j : Int, vs = [.int i, .int j] ∧ (-(2 ^ 62) ≤ i ∧ i < 2 ^ 62 ∧ -(2 ^ 62) ≤ j ∧ j < 2 ^ 62) ∧ R (Itr i (j - i).toNat) H1
theorem pi_range1 {a : Expr} {ta : TA} {p pos : Pos} (hg : Gl X "range") (hm : X.mg "range" = none) (ha : PA X [a] ta) (hs : starEach [a] X.env = [(false, eval a X.env)] := by rfl) : PI X tg (.Call (.Name "range" p) [a] [] pos) (iRng1 ta) := by
  intro pins s σ H R I h
  refine Call_ (ld_blt I hg hm boot_range (PyProof.Rows.callWith_type1 (thn (ha pos pins s σ H _ I h) fun us s1 ⟨vs, H1, I1, r1, q1⟩ => ?_) hs rfl))
  obtain ⟨j, e, q1, q2, q⟩ := q1
  subst e
  cases r1 with
  | cons r rr =>
    cases rr
    obtain ⟨t, rfl⟩ := r
    exact call_range_1 (range_it I1 (by omega) (by omega) q1 q2 (by simpa using q))
theorem pi_range2 {a b : Expr} {ta : TA} {p pos : Pos} (hg : Gl X "range") (hm : X.mg "range" = none) (ha : PA X [a, b] ta) (hs : starEach [a, b] X.env = [(false, eval a X.env), (false, eval b X.env)] := by rfl) (hs2 : starEach [b] X.env = [(false, eval b X.env)] := by rfl) :
    PI X tg (.Call (.Name "range" p) [a, b] [] pos) (iRng2 ta) := by
  intro pins s σ H R I h
  refine Call_ (ld_blt I hg hm boot_range (PyProof.Rows.callWith_type1 (thn (ha pos pins s σ H _ I h) fun us s1 ⟨vs, H1, I1, r1, q1⟩ => ?_) (by rw [hs, hs2]) (by rw [hs2]; rfl)))
  obtain ⟨i, j, e, ⟨q1, q2, q3, q4⟩, q⟩ := q1
  subst e
  cases r1 with
  | cons r rr =>
    cases rr with
    | cons r' rr =>
      cases rr
      obtain ⟨t, rfl⟩ := r
      obtain ⟨t', rfl⟩ := r'
      exact call_range_2 (range_it I1 q1 q2 q3 q4 q)
def tFor (wi : TI) (g : TG) (tb : TS) : TS := fun D σ H => wi σ H fun J H1 => ∃ W : Nat → Nat → St → Hp → Prop, (∃ m, W 0 m σ H1) ∧ ∀ i m σ H, W i m σ H →
  (J.stop i H ∧ D.nx σ H) ∨ (J.go i H ∧ ∃ N : St → Hp → Prop, (∀ σ' H', N σ' H' → ∃ m', m' < m ∧ W (i + 1) m' σ' H') ∧ ∀ x H', J.yld i H x H' → g x σ H' fun σ2 H2 => tb { D with nx := N, ct := N, bk := D.nx } σ2 H2)
def pinsAt (fp : List Addr) (h : Heap) : List (Addr × Obj) := fp.filterMap fun b => (h.get? b).map fun o => (b, o)
theorem mem_pinsAt {fp : List Addr} {h : Heap} {b : Addr} {o : Obj} (hb : b ∈ fp) (e : h.get? b = some o) : (b, o) ∈ pinsAt fp h := List.mem_filterMap.mpr ⟨b, hb, by rw [e]; rfl⟩
theorem of_pinsAt {fp : List Addr} {h : Heap} {p : Addr × Obj} (hp : p ∈ pinsAt fp h) : p.1 ∈ fp ∧ h.get? p.1 = some p.2 := by
  obtain ⟨b, hb, e⟩ := List.mem_filterMap.mp hp
  cases q : h.get? b with
  | none => rw [q] at e; cases e
  | some o =>
    rw [q] at e
    have e' : (b, o) = p := Option.some.inj e
    subst e'
    exact ⟨hb, q⟩
theorem Inv.pinned {pins : List (Addr × Obj)} {σ : St} {H : Hp} {s : Shared} {fp : List Addr} (I : Inv X pins σ H s) (hf : ∀ b ∈ fp, FpOk X pins H b) (ho : ∀ b ∈ fp, ∃ o, s.heap.get? b = some o ∧ ∀ v, o.data ≠ .cell v) : Inv X (pins ++ pinsAt fp s.heap) σ H s :=
  I.pins_of fun p hp => (List.mem_append.mp hp).elim (fun z => I.pin p (List.mem_append_right _ z)) fun z => by
    obtain ⟨hb, e⟩ := of_pinsAt z
    obtain ⟨f0, f1, f2, _⟩ := hf p.1 hb
    obtain ⟨o, e', d⟩ := ho p.1 hb
    rw [e] at e'; cases e'
    exact ⟨e, f0, f1, f2, d⟩
theorem Inv.unpinned {pins pl : List (Addr × Obj)} {σ : St} {H : Hp} {s : Shared} (I : Inv X (pins ++ pl) σ H s) : Inv X pins σ H s := I.pins_of fun p hp => I.pin p (List.mem_append_right _ (List.mem_append_left _ hp))
theorem ps_for {iter : Expr} {body : List Stmt} {wi : TI} {g : TG} {tb : TS} {pos : Pos} (hp : PassesOwn (model X.prog X.w) X.A X.env X.xe) (hc : X.calm = true) (hi : PI X tg iter wi) (hg : PG X tg g) (hb : PSs X body tb)
    (hs : ∀ x, foldedSetIterable iter X.env x = pure x := by intro _; rfl) : PS X (.For tg iter body [] pos) (tFor wi g tb) := by
  intro pins s σ H D I h
  refine wpAny_For (thn (hi pins s σ H _ I h) fun v s1 h1 => thn h1 fun itv s2 h2 => ?_) hs
  obtain ⟨it, fp, tn, J, H2, e, I2, T, st2, f2, W, ⟨m0, w0⟩, turn⟩ := h2
  subst e
  -- what stays true of the iterator's objects through the loop
  have stat : ∀ {H' : Hp}, (∀ b ∈ fp, H' b = none) → ∀ b ∈ fp, FpOk X pins H' b := fun hn b hb => ⟨hn b hb, (f2 b hb).2⟩
  refine codeAny_forLoop_any (fun n s' => ∃ i σ' H', Inv X pins σ' H' s' ∧ tn i s'.heap ∧ (∀ b ∈ fp, H' b = none) ∧ W i n σ' H') ?_ m0 ⟨0, σ, H2, I2, st2, fun b hb => (f2 b hb).1, w0⟩
  rintro n s3 ⟨i, σ3, H3, I3, st3, fr3, w3⟩
  rcases turn i n σ3 H3 w3 with ⟨stop, qn⟩ | ⟨go, N, hN, step⟩
  · refine wpAny_passesOwn hp (thn (T.done X rfl rfl rfl hc i pins s3 σ3 H3 X.xe I3 (stat fr3) st3 stop) fun r s4 ⟨hr, I4⟩ => ?_)
    subst hr
    exact wpAny_execs_nil ⟨σ3, H3, I4, qn⟩
  · refine wpAny_passesOwn hp (thn (T.item X rfl rfl rfl hc i pins s3 σ3 H3 X.xe I3 (stat fr3) st3 go) fun r s4 ⟨u, hr, h4⟩ => ?_)
    subst hr
    refine wpAny_passesOwn hp (thn h4 fun _ s5 ⟨x, H5, I5, r5, y5, st5, fr5⟩ => ?_)
    have I5' := I5.pinned (stat fr5) (T.obj _ _ st5)
    refine wpAny_passesOwn hp (thn (hg _ s5 σ3 H5 x u _ I5' r5 (step x H5 y5)) fun _ s6 ⟨σ6, H6, I6, q6⟩ => ?_)
    refine wpAny_passesOwn hp (thn (hb _ s6 σ6 H6 _ I6 q6) fun f s7 q7 => ?_)
    have again : ∀ {σ7 : St} {H7 : Hp}, Inv X (pins ++ pinsAt fp s5.heap) σ7 H7 s7 → N σ7 H7 → ∃ m, m < n ∧ ∃ i σ' H', Inv X pins σ' H' s7 ∧ tn i s7.heap ∧ (∀ b ∈ fp, H' b = none) ∧ W i m σ' H' := fun {σ7 H7} I7 n7 => by
      obtain ⟨m', hm, w7⟩ := hN σ7 H7 n7
      refine ⟨m', hm, i + 1, σ7, H7, I7.unpinned, T.keep _ _ _ st5 fun b hb o e => (I7.pin (b, o) (List.mem_append_right _ (List.mem_append_right _ (mem_pinsAt hb e)))).1, fun b hb => ?_, w7⟩
      obtain ⟨o, e, d⟩ := T.obj _ _ st5 b hb
      exact (I7.pin (b, o) (List.mem_append_right _ (List.mem_append_right _ (mem_pinsAt hb e)))).2.1
    cases f with
    | next => obtain ⟨σ7, H7, I7, n7⟩ := q7; exact again I7 n7
    | cont => obtain ⟨σ7, H7, I7, n7⟩ := q7; exact again I7 n7
    | brk => obtain ⟨σ7, H7, I7, q7⟩ := q7; exact ⟨σ7, H7, I7.unpinned, q7⟩
    | ret v => obtain ⟨x7, σ7, H7, I7, r7, q7⟩ := q7; exact ⟨x7, σ7, H7, I7.unpinned, r7, q7⟩
end
theorem for_list {K : PySem.W.Frag} {a : Addr} {xs : List V} {g : TG} {tb : TS} {D : Ends} {σ : St} {H : Hp} (Pv : Nat → St → Hp → Prop) (h0 : Pv 0 σ H) (hl : ∀ i σ H, i ≤ xs.length → Pv i σ H → SqL K H a xs)
    (hs : ∀ i x σ H, xs[i]? = some x → Pv i σ H → g x σ H fun σ2 H2 => tb { D with nx := Pv (i + 1), ct := Pv (i + 1), bk := D.nx } σ2 H2) (hd : ∀ σ H, Pv xs.length σ H → D.nx σ H) :
    ∃ W : Nat → Nat → St → Hp → Prop, (∃ m, W 0 m σ H) ∧ ∀ i m σ H, W i m σ H →
      ((Itl K a).stop i H ∧ D.nx σ H) ∨ ((Itl K a).go i H ∧ ∃ N : St → Hp → Prop, (∀ σ' H', N σ' H' → ∃ m', m' < m ∧ W (i + 1) m' σ' H') ∧ ∀ x H', (Itl K a).yld i H x H' → g x σ H' fun σ2 H2 => tb { D with nx := N, ct := N, bk := D.nx } σ2 H2) := by
  refine ⟨fun i m σ H => m = xs.length - i ∧ i ≤ xs.length ∧ Pv i σ H, ⟨xs.length, by simp, Nat.zero_le _, h0⟩, ?_⟩
  rintro i m σ H ⟨rfl, hi, p⟩
  have q := hl i σ H hi p
  by_cases hlt : i < xs.length
  · refine .inr ⟨⟨xs, xs[i], q, by simp [hlt]⟩, Pv (i + 1), fun σ' H' p' => ⟨xs.length - (i + 1), by omega, rfl, hlt, p'⟩, fun x H' y => ?_⟩
    obtain ⟨e, y⟩ := y
    subst e
    exact hs i x σ _ (y xs q) p
  · have e : i = xs.length := by omega
    subst e
    exact .inl ⟨⟨xs, q, Nat.le_refl _⟩, hd σ H p⟩
theorem for_tup {K : PySem.W.Frag} {a : Addr} {xs : List V} {g : TG} {tb : TS} {D : Ends} {σ : St} {H : Hp} (Pv : Nat → St → Hp → Prop) (h0 : Pv 0 σ H) (hl : ∀ i σ H, i ≤ xs.length → Pv i σ H → SqT K H a xs)
    (hs : ∀ i x σ H, xs[i]? = some x → Pv i σ H → g x σ H fun σ2 H2 => tb { D with nx := Pv (i + 1), ct := Pv (i + 1), bk := D.nx } σ2 H2) (hd : ∀ σ H, Pv xs.length σ H → D.nx σ H) :
    ∃ W : Nat → Nat → St → Hp → Prop, (∃ m, W 0 m σ H) ∧ ∀ i m σ H, W i m σ H →
      ((Itt K a).stop i H ∧ D.nx σ H) ∨ ((Itt K a).go i H ∧ ∃ N : St → Hp → Prop, (∀ σ' H', N σ' H' → ∃ m', m' < m ∧ W (i + 1) m' σ' H') ∧ ∀ x H', (Itt K a).yld i H x H' → g x σ H' fun σ2 H2 => tb { D with nx := N, ct := N, bk := D.nx } σ2 H2) := by
  refine ⟨fun i m σ H => m = xs.length - i ∧ i ≤ xs.length ∧ Pv i σ H, ⟨xs.length, by simp, Nat.zero_le _, h0⟩, ?_⟩
  rintro i m σ H ⟨rfl, hi, p⟩
  have q := hl i σ H hi p
  by_cases hlt : i < xs.length
  · refine .inr ⟨⟨xs, xs[i], q, by simp [hlt]⟩, Pv (i + 1), fun σ' H' p' => ⟨xs.length - (i + 1), by omega, rfl, hlt, p'⟩, fun x H' y => ?_⟩
    obtain ⟨e, y⟩ := y
    subst e
    exact hs i x σ _ (y xs q) p
  · have e : i = xs.length := by omega
    subst e
    exact .inl ⟨⟨xs, q, Nat.le_refl _⟩, hd σ H p⟩
theorem for_range {lo : Int} {n : Nat} {g : TG} {tb : TS} {D : Ends} {σ : St} {H : Hp} (Pv : Nat → St → Hp → Prop) (h0 : Pv 0 σ H)
    (hs : ∀ i σ H, i < n → Pv i σ H → g (.int (lo + i)) σ H fun σ2 H2 => tb { D with nx := Pv (i + 1), ct := Pv (i + 1), bk := D.nx } σ2 H2) (hd : ∀ σ H, Pv n σ H → D.nx σ H) :
    ∃ W : Nat → Nat → St → Hp → Prop, (∃ m, W 0 m σ H) ∧ ∀ i m σ H, W i m σ H →
      ((Itr lo n).stop i H ∧ D.nx σ H) ∨ ((Itr lo n).go i H ∧ ∃ N : St → Hp → Prop, (∀ σ' H', N σ' H' → ∃ m', m' < m ∧ W (i + 1) m' σ' H') ∧ ∀ x H', (Itr lo n).yld i H x H' → g x σ H' fun σ2 H2 => tb { D with nx := N, ct := N, bk := D.nx } σ2 H2) := by
  refine ⟨fun i m σ H => m = n - i ∧ i ≤ n ∧ Pv i σ H, ⟨n, by simp, Nat.zero_le _, h0⟩, ?_⟩
  rintro i m σ H ⟨rfl, hi, p⟩
  by_cases hlt : i < n
  · refine .inr ⟨hlt, Pv (i + 1), fun σ' H' p' => ⟨n - (i + 1), by omega, rfl, hlt, p'⟩, fun x H' y => ?_⟩
    obtain ⟨e, y⟩ := y
    subst e y
    exact hs i σ _ hlt p
  · have e : i = n := by omega
    subst e
    exact .inl ⟨Nat.le_refl _, hd σ H p⟩
end L2
namespace L2
open PySem PySem.Spec PyProof.Rows
abbrev R2 := V → V → Hp → VK → Prop
def OpR (X : Cx) (f : Value → Value → Sem Value) (r : R2) : Prop :=
  ∀ (pins : List (Addr × Obj)) (s : Shared) (σ : St) (H : Hp) (x y : V) (v u : Value) (Q : VK), Inv X pins σ H s → RelV x v → RelV y u → r x y H Q →
    wpAny (model X.prog X.w) X.A (f v u) (EP X pins σ Q) X.xe s
def UnR (X : Cx) (f : Value → Sem Value) (r : V → Hp → VK → Prop) : Prop :=
  ∀ (pins : List (Addr × Obj)) (s : Shared) (σ : St) (H : Hp) (x : V) (v : Value) (Q : VK), Inv X pins σ H s → RelV x v → r x H Q →
    wpAny (model X.prog X.w) X.A (f v) (EP X pins σ Q) X.xe s
def CallR (X : Cx) (f : Value) (r : List V → Hp → VK → Prop) : Prop :=
  ∀ (pins : List (Addr × Obj)) (s : Shared) (σ : St) (H : Hp) (xs : List V) (us : List Value) (Q : VK), Inv X pins σ H s → Vals xs us → r xs H Q →
    wpAny (model X.prog X.w) X.A (call f us) (EP X pins σ Q) X.xe s
def tOp (r : R2) (ta tb : TE) : TE := fun σ H Q => ta σ H fun x H1 => tb σ H1 fun y H2 => r x y H2 Q
def tUn (r : V → Hp → VK → Prop) (ta : TE) : TE := fun σ H Q => ta σ H fun x H1 => r x H1 Q
def rI (C : Int → Int → Prop) (g : Int → Int → V) : R2 := fun x y H Q => ∃ i j, x = .int i ∧ y = .int j ∧ C i j ∧ Q (g i j) H
def rI0 (g : Int → Int → V) : R2 := fun x y H Q => ∃ i j, x = .int i ∧ y = .int j ∧ Q (g i j) H
def rU (g : Int → V) : V → Hp → VK → Prop := fun x H Q => ∃ i, x = .int i ∧ Q (g i) H
section
variable {X : Cx} {a b c : Expr} {ta tb tc : TE} {pos : Pos}
theorem binT (ha : PE X a ta) (hb : PE X b tb) {pins : List (Addr × Obj)} {s : Shared} {σ : St} {H : Hp} {R : V → V → Hp → Prop} (I : Inv X pins σ H s)
    (h : ta σ H fun x H1 => tb σ H1 fun y H2 => R x y H2) {Q : Value → Shared → Prop} {f : Value → Value → Sem Value}
    (hf : ∀ v u s2 x y H2, Inv X pins σ H2 s2 → RelV x v → RelV y u → R x y H2 → wpAny (model X.prog X.w) X.A (f v u) Q X.xe s2) :
    wpAny (model X.prog X.w) X.A (eval a X.env) (fun v s₁ => wpAny (model X.prog X.w) X.A (eval b X.env) (fun u s₂ => wpAny (model X.prog X.w) X.A (f v u) Q X.xe s₂) X.xe s₁) X.xe s := by
  refine thn (ha pins s σ H _ I h) fun v s1 ⟨x, H1, I1, r1, q1⟩ => ?_
  refine thn (hb pins s1 σ H1 _ I1 q1) fun u s2 ⟨y, H2, I2, r2, q2⟩ => ?_
  exact hf v u s2 x y H2 I2 r1 r2 q2
theorem pe_op {op : Operator} {r : R2} (ho : OpR X (binaryOp op) r) (ha : PE X a ta) (hb : PE X b tb) : PE X (.BinOp a op b pos) (tOp r ta tb) := by
  intro pins s σ H Q I h
  exact wpAny_BinOp (binT ha hb I h fun v u s2 x y H2 I2 rx ry q => ho pins s2 σ H2 x y v u Q I2 rx ry q)
theorem pe_un {op : UnaryOp} {r : V → Hp → VK → Prop} (ho : UnR X (unaryOp op) r) (ha : PE X a ta) : PE X (.UnaryOp op a pos) (tUn r ta) := by
  intro pins s σ H Q I h
  exact UnaryOp_ (thn (ha pins s σ H _ I h) fun v s1 ⟨x, H1, I1, r1, q1⟩ => ho pins s1 σ H1 x v Q I1 r1 q1)
theorem opI {f : Value → Value → Sem Value} {C : Int → Int → Prop} {g : Int → Int → Int}
    (rule : ∀ (i j : Int) (t u : Tok) (s : Shared) (Q : Value → Shared → Prop) (E : Value → Shared → Prop), C i j → Q (.int (g i j) s.toks) { s with toks := s.toks + 1 } → wpAny (model X.prog X.w) X.A (f (.int i t) (.int j u)) Q E s) :
    OpR X f (rI C fun i j => .int (g i j)) := by
  intro pins s σ H x y v u Q I rx ry h
  obtain ⟨i, j, rfl, rfl, hc, q⟩ := h
  obtain ⟨t, rfl⟩ := rx
  obtain ⟨t', rfl⟩ := ry
  exact rule i j t t' s _ _ hc ⟨.int (g i j), H, I.tok _, ⟨_, rfl⟩, q⟩
theorem opI0 {f : Value → Value → Sem Value} {g : Int → Int → Int}
    (rule : ∀ (i j : Int) (t u : Tok) (s : Shared) (Q : Value → Shared → Prop) (E : Value → Shared → Prop), Q (.int (g i j) s.toks) { s with toks := s.toks + 1 } → wpAny (model X.prog X.w) X.A (f (.int i t) (.int j u)) Q E s) :
    OpR X f (rI0 fun i j => .int (g i j)) := by
  intro pins s σ H x y v u Q I rx ry h
  obtain ⟨i, j, rfl, rfl, q⟩ := h
  obtain ⟨t, rfl⟩ := rx
  obtain ⟨t', rfl⟩ := ry
  exact rule i j t t' s _ _ ⟨.int (g i j), H, I.tok _, ⟨_, rfl⟩, q⟩
theorem opB0 {f : Value → Value → Sem Value} {g : Int → Int → Bool}
    (rule : ∀ (i j : Int) (t u : Tok) (s : Shared) (Q : Value → Shared → Prop) (E : Value → Shared → Prop), Q (.bool (g i j)) s → wpAny (model X.prog X.w) X.A (f (.int i t) (.int j u)) Q E s) :
    OpR X f (rI0 fun i j => .bl (g i j)) := by
  intro pins s σ H x y v u Q I rx ry h
  obtain ⟨i, j, rfl, rfl, q⟩ := h
  obtain ⟨t, rfl⟩ := rx
  obtain ⟨t', rfl⟩ := ry
  exact rule i j t t' s _ _ ⟨.bl (g i j), H, I, rfl, q⟩
def CDiv (i j : Int) : Prop := 0 < j ∧ j < 1073741824
def CPow (i j : Int) : Prop := 0 ≤ j ∧ j ≤ 1000000 ∧ i.natAbs < 2 ^ 64
def CMul (i j : Int) : Prop := (-(2 ^ 64) < i ∧ i < 2 ^ 64) ∨ (-(2 ^ 64) < j ∧ j < 2 ^ 64)
theorem CMul.ok {i j : Int} (h : CMul i j) : IntMulOk i j := by
  rcases h with ⟨h1, h2⟩ | ⟨h1, h2⟩
  · exact .of_left (intBits_le_64 h1 h2)
  · exact .of_right (intBits_le_64 h1 h2)
theorem op_add : OpR X (binaryOp .Add) (rI0 fun i j => .int (i + j)) := opI0 fun _ _ _ _ _ _ _ q => add_int q
theorem op_sub : OpR X (binaryOp .Sub) (rI0 fun i j => .int (i - j)) := opI0 fun _ _ _ _ _ _ _ q => sub_int q
theorem op_mul : OpR X (binaryOp .Mult) (rI CMul fun i j => .int (i * j)) := opI fun _ _ _ _ _ _ _ hc q => mul_int q hc.ok
theorem op_fdiv : OpR X (binaryOp .FloorDiv) (rI CDiv fun i j => .int (i / j)) := opI fun i j _ _ _ _ _ hc q => by
  have h1 : (0 : Int) < j := hc.1
  have h2 : j < 1073741824 := hc.2
  exact floordiv_int (by omega) (by rw [Int.fdiv_eq_ediv_of_nonneg i (by omega)]; exact q) (.inl (PyProof.noPylong_small (by omega)))
theorem op_mod : OpR X (binaryOp .Mod) (rI (fun _ j => 0 < j) fun i j => .int (i % j)) := opI fun i j _ _ _ _ _ hc q => by
  have h1 : (0 : Int) < j := hc
  exact mod_int' (by omega) (by rw [Int.fmod_eq_emod_of_nonneg i (by omega)]; exact q)
theorem op_pow : OpR X (binaryOp .Pow) (rI CPow fun i j => .int (i ^ j.toNat)) := opI fun _ _ _ _ _ _ _ hc q => pow_int_small hc.1 hc.2.1 hc.2.2 q
theorem op_xor : OpR X (binaryOp .BitXor) (rI0 fun i j => .int (Builtin.bitXor i j)) := opI0 fun _ _ _ _ _ _ _ q => xor_int q
theorem unI {f : Value → Sem Value} {g : Int → Int}
    (rule : ∀ (i : Int) (t : Tok) (s : Shared) (Q : Value → Shared → Prop) (E : Value → Shared → Prop), Q (.int (g i) s.toks) { s with toks := s.toks + 1 } → wpAny (model X.prog X.w) X.A (f (.int i t)) Q E s) :
    UnR X f (rU fun i => .int (g i)) := by
  intro pins s σ H x v Q I rx h
  obtain ⟨i, rfl, q⟩ := h
  obtain ⟨t, rfl⟩ := rx
  exact rule i t s _ _ ⟨.int (g i), H, I.tok _, ⟨_, rfl⟩, q⟩
theorem un_neg : UnR X (unaryOp .USub) (rU fun i => .int (-i)) := unI fun _ _ _ _ _ q => neg_int q
end
def scal : V → V → Bool
  | .non, .non => true | .non, .int _ => true | .int _, .non => true | .non, .bl _ => true | .bl _, .non => true | .non, .str _ => true | .str _, .non => true
  | .int _, .int _ => true | .bl _, .bl _ => true | .str _, .str _ => true | .byt _, .byt _ => true
  | .int _, .str _ => true | .str _, .int _ => true | .bl _, .str _ => true | .str _, .bl _ => true
  | _, _ => false
def rEq : R2 := fun x y H Q => scal x y = true ∧ Q (.bl (decide (x = y))) H
def rNe : R2 := fun x y H Q => scal x y = true ∧ Q (.bl (!decide (x = y))) H
theorem dec_int {i j : Int} : decide (V.int i = V.int j) = (i == j) := by
  rw [Bool.eq_iff_iff]
  simp
theorem dec_bl {i j : Bool} : decide (V.bl i = V.bl j) = (i == j) := by
  rw [Bool.eq_iff_iff]
  simp
theorem dec_str {i j : Str} : decide (V.str i = V.str j) = (i == j) := by
  rw [Bool.eq_iff_iff]
  simp
theorem dec_byt {i j : Array UInt8} : decide (V.byt i = V.byt j) = (i.toList == j.toList) := by
  rw [Bool.eq_iff_iff]
  cases i
  cases j
  simp
section
variable {X : Cx} {a b c : Expr} {ta tb tc : TE} {pos : Pos}
theorem fin_bl {pins : List (Addr × Obj)} {σ : St} {H : Hp} {s : Shared} {Q : VK} {k k' : Bool} (I : Inv X pins σ H s) (q : Q (.bl k) H) (e : k = k') : EP X pins σ Q (.bool k') s := by
  subst e
  exact ⟨.bl k, H, I, rfl, q⟩
theorem op_eq : OpR X (compareOp .Eq) rEq := by
  intro pins s σ H x y v u Q I rx ry h
  obtain ⟨hs, q⟩ := h
  cases x with
  | non =>
    cases rx
    cases y with
    | non => cases ry; exact PySem.EqNone.eq_none_none (fin_bl I q (by simp))
    | bl j => cases ry; exact PySem.EqNone.eq_none_bool (fin_bl I q (by simp))
    | int j => obtain ⟨t', rfl⟩ := ry; exact PySem.EqNone.eq_none_int (fin_bl I q (by simp))
    | str j => obtain ⟨t', rfl⟩ := ry; exact PySem.EqNone.eq_none_str (fin_bl I q (by simp))
    | _ => exact absurd (show false = true from hs) Bool.false_ne_true
  | bl i =>
    cases rx
    cases y with
    | non => cases ry; exact PySem.EqNone.eq_bool_none (fin_bl I q (by simp))
    | bl j => cases ry; exact eq_bool (fin_bl I q dec_bl)
    | str j => obtain ⟨t', rfl⟩ := ry; exact PySem.EqMixed.eq_bool_str (fin_bl I q (by simp))
    | _ => exact absurd (show false = true from hs) Bool.false_ne_true
  | int i =>
    obtain ⟨t, rfl⟩ := rx
    cases y with
    | non => cases ry; exact PySem.EqNone.eq_int_none (fin_bl I q (by simp))
    | int j => obtain ⟨t', rfl⟩ := ry; exact eq_int (fin_bl I q dec_int)
    | str j => obtain ⟨t', rfl⟩ := ry; exact PySem.EqMixed.eq_int_str (fin_bl I q (by simp))
    | _ => exact absurd (show false = true from hs) Bool.false_ne_true
  | str i =>
    obtain ⟨t, rfl⟩ := rx
    cases y with
    | non => cases ry; exact PySem.EqNone.eq_str_none (fin_bl I q (by simp))
    | bl j => cases ry; exact PySem.EqMixed.eq_str_bool (fin_bl I q (by simp))
    | int j => obtain ⟨t', rfl⟩ := ry; exact PySem.EqMixed.eq_str_int (fin_bl I q (by simp))
    | str j => obtain ⟨t', rfl⟩ := ry; exact eq_str (fin_bl I q dec_str)
    | _ => exact absurd (show false = true from hs) Bool.false_ne_true
  | byt i =>
    obtain ⟨t, rfl⟩ := rx
    cases y with
    | byt j => obtain ⟨t', rfl⟩ := ry; exact PySem.W.eq_bytes (fin_bl I q dec_byt)
    | _ => exact absurd (show false = true from hs) Bool.false_ne_true
  | _ => cases y <;> exact absurd (show false = true from hs) Bool.false_ne_true
theorem op_ne : OpR X (compareOp .NotEq) rNe := by
  intro pins s σ H x y v u Q I rx ry h
  obtain ⟨hs, q⟩ := h
  cases x with
  | non =>
    cases rx
    cases y with
    | non => cases ry; exact PySem.EqNone.ne_none_none (fin_bl I q (by simp))
    | bl j => cases ry; exact PySem.EqNone.ne_none_bool (fin_bl I q (by simp))
    | int j => obtain ⟨t', rfl⟩ := ry; exact PySem.EqNone.ne_none_int (fin_bl I q (by simp))
    | str j => obtain ⟨t', rfl⟩ := ry; exact PySem.EqNone.ne_none_str (fin_bl I q (by simp))
    | _ => exact absurd (show false = true from hs) Bool.false_ne_true
  | bl i =>
    cases rx
    cases y with
    | non => cases ry; exact PySem.EqNone.ne_bool_none (fin_bl I q (by simp))
    | bl j => cases ry; exact ne_bool (fin_bl I q (congrArg not dec_bl))
    | str j => obtain ⟨t', rfl⟩ := ry; exact PySem.EqMixed.ne_bool_str (fin_bl I q (by simp))
    | _ => exact absurd (show false = true from hs) Bool.false_ne_true
  | int i =>
    obtain ⟨t, rfl⟩ := rx
    cases y with
    | non => cases ry; exact PySem.EqNone.ne_int_none (fin_bl I q (by simp))
    | int j => obtain ⟨t', rfl⟩ := ry; exact ne_int (fin_bl I q (congrArg not dec_int))
    | str j => obtain ⟨t', rfl⟩ := ry; exact PySem.EqMixed.ne_int_str (fin_bl I q (by simp))
    | _ => exact absurd (show false = true from hs) Bool.false_ne_true
  | str i =>
    obtain ⟨t, rfl⟩ := rx
    cases y with
    | non => cases ry; exact PySem.EqNone.ne_str_none (fin_bl I q (by simp))
    | bl j => cases ry; exact PySem.EqMixed.ne_str_bool (fin_bl I q (by simp))
    | int j => obtain ⟨t', rfl⟩ := ry; exact PySem.EqMixed.ne_str_int (fin_bl I q (by simp))
    | str j => obtain ⟨t', rfl⟩ := ry; exact ne_str (fin_bl I q (congrArg not dec_str))
    | _ => exact absurd (show false = true from hs) Bool.false_ne_true
  | byt i =>
    obtain ⟨t, rfl⟩ := rx
    cases y with
    | byt j => obtain ⟨t', rfl⟩ := ry; exact PySem.W.ne_bytes (fin_bl I q (congrArg not dec_byt))
    | _ => exact absurd (show false = true from hs) Bool.false_ne_true
  | _ => cases y <;> exact absurd (show false = true from hs) Bool.false_ne_true
theorem op_lt : OpR X (compareOp .Lt) (rI0 fun i j => .bl (decide (i < j))) := opB0 fun _ _ _ _ _ _ _ q => lt_int q
theorem op_le : OpR X (compareOp .LtE) (rI0 fun i j => .bl (decide (i ≤ j))) := opB0 fun _ _ _ _ _ _ _ q => le_int q
theorem op_gt : OpR X (compareOp .Gt) (rI0 fun i j => .bl (decide (j < i))) := opB0 fun _ _ _ _ _ _ _ q => gt_int q
theorem op_ge : OpR X (compareOp .GtE) (rI0 fun i j => .bl (decide (j ≤ i))) := opB0 fun _ _ _ _ _ _ _ q => ge_int q
theorem nomark (b : Expr) {op : CmpOp} (h : op ≠ .In := by decide) (h2 : op ≠ .NotIn := by decide) : behindInMarks op b = false := by
  have e1 : (op == CmpOp.In) = false := by cases op <;> first | rfl | exact absurd rfl h
  have e2 : (op == CmpOp.NotIn) = false := by cases op <;> first | rfl | exact absurd rfl h2
  cases b <;> simp [behindInMarks, e1, e2]
theorem pe_cmpR {op : CmpOp} {r : R2} (ho : OpR X (compareOp op) r) (ha : PE X a ta) (hb : PE X b tb) (hm : behindInMarks op b = false) : PE X (.Compare a [op] [b] pos) (tOp r ta tb) := by
  intro pins s σ H Q I h
  exact wpAny_Compare1 (binT ha hb I h fun v u s2 x y H2 I2 rx ry q => ho pins s2 σ H2 x y v u Q I2 rx ry q) hm
def tTest (t : TE) : TT := fun σ H Q => t σ H fun x H' => ∃ k, x = .bl k ∧ Q k H'
theorem pt_cmpR {op : CmpOp} {r : R2} (ho : OpR X (compareOp op) r) (ha : PE X a ta) (hb : PE X b tb) (hm : behindInMarks op b = false) : PT X (.Compare a [op] [b] pos) (tTest (tOp r ta tb)) := by
  intro pins s σ H Q I h
  refine wpAny_isTrue_Compare1 (thn (ha pins s σ H _ I h) fun v s1 ⟨x, H1, I1, r1, q1⟩ => thn (hb pins s1 σ H1 _ I1 q1) fun u s2 ⟨y, H2, I2, r2, q2⟩ =>
    thn (ho pins s2 σ H2 x y v u _ I2 r1 r2 q2) fun c s3 ⟨z, H3, I3, r3, k, e, q3⟩ => ?_) hm
  subst e
  cases r3
  exact wpAny_truthy_bool ⟨H3, I3, q3⟩
def tChain (r r' : R2) (ta tb tc : TE) : TE := fun σ H Q => ta σ H fun x H1 => tb σ H1 fun y H2 => r x y H2 fun z H3 => ∃ k, z = .bl k ∧
  (if k = true then tc σ H3 fun w' H4 => r' y w' H4 Q else Q (.bl false) H3)
theorem pe_chain {op op' : CmpOp} {r r' : R2} (ho : OpR X (compareOp op) r) (ho' : OpR X (compareOp op') r') (ha : PE X a ta) (hb : PE X b tb) (hc : PE X c tc)
    (hm : lastMarks [op, op'] [b, c] = false := by with_unfolding_all rfl) : PE X (.Compare a [op, op'] [b, c] pos) (tChain r r' ta tb tc) := by
  intro pins s σ H Q I h
  refine Compare_chain (thn (ha pins s σ H _ I h) fun v s1 ⟨x, H1, I1, r1, q1⟩ => chain_link (thn (hb pins s1 σ H1 _ I1 q1) fun u s2 ⟨y, H2, I2, r2, q2⟩ =>
    thn (ho pins s2 σ H2 x y v u _ I2 r1 r2 q2) fun d s3 ⟨z, H3, I3, r3, k, e, q3⟩ => ?_)) hm
  subst e
  cases r3
  refine wpAny_truthy_bool ?_
  cases k with
  | false => exact ite_ff ⟨.bl false, H3, I3, rfl, q3⟩
  | true => exact ite_tt (chain_last (thn (hc pins s3 σ H3 _ I3 q3) fun w' s4 ⟨z', H4, I4, r4, q4⟩ => ho' pins s4 σ H4 y z' u w' Q I4 r2 r4 q4))
theorem line63 : (sizeLine : Nat) < 2 ^ 63 := by rw [sizeLine_eq]; decide
theorem vals1 {x : V} {us : List Value} (r : Vals [x] us) : ∃ u, us = [u] ∧ RelV x u := by
  cases r with
  | cons r1 r2 => cases r2; exact ⟨_, rfl, r1⟩
theorem vals2 {x y : V} {us : List Value} (r : Vals [x, y] us) : ∃ u w', us = [u, w'] ∧ RelV x u ∧ RelV y w' := by
  cases r with
  | cons r1 r2 =>
    cases r2 with
    | cons r3 r4 => cases r4; exact ⟨_, _, rfl, r1, r3⟩
theorem call_max2 (hc : X.calm = true) : CallR X (.builtin "max") (fun xs H Q => ∃ i j, xs = [.int i, .int j] ∧ Q (.int (if j > i then j else i)) H) := by
  intro pins s σ H xs us Q I r h
  obtain ⟨i, j, rfl, q⟩ := h
  obtain ⟨u, w', rfl, ⟨t, rfl⟩, ⟨t', rfl⟩⟩ := vals2 r
  refine max_two_ints (I.ok.hd hc) fun h' tk k => ⟨_, H, I.kept k, ?_, q⟩
  by_cases hj : j > i
  · rw [if_pos hj, if_pos hj]; exact ⟨_, rfl⟩
  · rw [if_neg hj, if_neg hj]; exact ⟨_, rfl⟩
theorem call_min2 (hc : X.calm = true) : CallR X (.builtin "min") (fun xs H Q => ∃ i j, xs = [.int i, .int j] ∧ Q (.int (if j < i then j else i)) H) := by
  intro pins s σ H xs us Q I r h
  obtain ⟨i, j, rfl, q⟩ := h
  obtain ⟨u, w', rfl, ⟨t, rfl⟩, ⟨t', rfl⟩⟩ := vals2 r
  refine min_two_ints (I.ok.hd hc) fun h' tk k => ⟨_, H, I.kept k, ?_, q⟩
  by_cases hj : j < i
  · rw [if_pos hj, if_pos hj]; exact ⟨_, rfl⟩
  · rw [if_neg hj, if_neg hj]; exact ⟨_, rfl⟩
theorem call_int1 : CallR X (.type "int") (fun xs H Q => (∃ i, xs = [.int i] ∧ Q (.int i) H) ∨ ∃ k, xs = [.bl k] ∧ Q (.int (if k then 1 else 0)) H) := by
  intro pins s σ H xs us Q I r h
  rcases h with ⟨i, rfl, q⟩ | ⟨k, rfl, q⟩
  · obtain ⟨u, rfl, t, rfl⟩ := vals1 r
    exact call_int_int ⟨.int i, H, I, ⟨_, rfl⟩, q⟩
  · obtain ⟨u, rfl, r1⟩ := vals1 r
    cases r1
    exact call_int_bool ⟨.int (if k then 1 else 0), H, I.tok _, ⟨_, rfl⟩, q⟩
end
end L2
namespace L2
open PySem PySem.Spec PyProof.Rows
structure ObjM (h : Heap) (x dx C : Addr) (mA : Str → Option Value) : Prop where
  obj : h.get? x = some (PySem.W.instObj C dx)
  ns : h.Ns1 dx mA
  ne : dx ≠ x
theorem lookIn_ns {h : Heap} {dx : Addr} {mA : Str → Option Value} (n : h.Ns1 dx mA) : ∃ od, h.get? dx = some od ∧ ∀ name, PySem.W.lookIn name od = some (mA name) := by
  obtain ⟨o, es, ep, ho, hd, hk, _, hm⟩ := n
  refine ⟨o, ho, fun name => ?_⟩
  have e := hm name
  unfold nsFind findBy at e
  rw [← Array.find?_toList] at e
  unfold PySem.W.lookIn
  rw [hd]
  dsimp only
  split
  · rename_i y q
    rw [q] at e
    exact congrArg some e
  · rename_i q
    rw [q] at e
    have a : es.toList.any (·.refKey) = false := by
      rw [List.any_eq_false]
      intro y hy
      obtain ⟨z, t, hkey⟩ := hk y (Array.mem_toList_iff.mp hy)
      simp [DictEntry.refKey, hkey]
    have a' : ¬ es.toList.any (·.refKey) = true := by rw [a]; exact Bool.false_ne_true
    rw [if_neg a']
    exact congrArg some e
theorem ObjM.look {h : Heap} {x dx C : Addr} {mA : Str → Option Value} (I : ObjM h x dx C mA) : ∃ od, PySem.W.InstAt h x (PySem.W.instObj C dx) C (some od) ∧ ∀ name, PySem.W.lookIn name od = some (mA name) :=
  let ⟨od, ho, hl⟩ := lookIn_ns I.ns
  ⟨od, ⟨I.obj, rfl, rfl, ho⟩, hl⟩
section
variable {prog : Program} {w : World} {A : Around} {E : Value → Shared → Prop} {s : Shared} {K : PySem.W.Frag} {x dx C f : Addr} {mA : Str → Option Value} {name : Str} {v : Value}
theorem get_map {expr : Bool} {Q : Value → Shared → Prop} (X : K.In s.heap) (I : ObjM s.heap x dx C mA) (hg : PySem.W.plainGet K C name = true) (hh : PySem.W.hasDictIn K C = true)
    (ha : PySem.W.findIn K (.ref C) name = some none) (hv : mA name = some v) (hv' : PySem.W.handedIn v = true) (h : Q v { s with toks := s.toks + 1 }) :
    wpAny (model prog w) A (getAttr (.ref x) name expr) Q E s := by
  obtain ⟨od, J, hl⟩ := I.look
  exact PySem.W.get_value X J (PySem.W.plainGet_of hg).1 (PySem.W.findObj_own hh ha rfl (by rw [hl, hv])) hv' h
theorem set_map {ns : List Str} {Q : Unit → Shared → Prop} (X : K.In s.heap) (I : ObjM s.heap x dx C mA)
    (hs : PySem.W.findIn K (.ref C) "__setattr__" = some (some (.builtin "object.__setattr__"))) (hp : PySem.W.plainOver K C = true) (ht : PySem.W.takerIn K C name = some none) (hh : PySem.W.hasDictIn K C = true)
    (hw : PySem.Within mA ns) (hsz : ns.length ≤ sizeLine)
    (h : ∀ h', ObjM h' x dx C (fun y => if y = name then some v else mA y) → Heap.SameBut dx s.heap h' → Q () { s with heap := h', toks := s.toks + 2 }) :
    wpAny (model prog w) A (setAttr (.ref x) name v) Q E s := by
  obtain ⟨od, J, hl⟩ := I.look
  refine PySem.W.set_plain X J hs (PySem.W.osa_open (s := { s with toks := s.toks + 1 }) (r := none) X J hp ht fun b => ?_)
  obtain ⟨cd, hc, hd'⟩ := PySem.W.any_some hh
  have hx : s.heap.get? x = some ⟨.ref C, some dx, .plain, #[]⟩ := I.obj
  refine wpAny_bind (wpAny_pure (wpAny_bind (wpAny_bind (wpAny_loadPart hx (wpAny_bind (PySem.W.Looks.here (s := { s with toks := s.toks + 1 }) (PySem.W.looks_clsIn X hc) ?_))))))
  rw [hd']
  refine wpAny_pure (a := some dx) (wpAny_bind (wpAny_pure (wpAny_bind ?_)))
  refine wpAny_nsSet1 (s := { s with toks := s.toks + 1 }) I.ns fun h' hn2 hs2 => ?_
  obtain ⟨oD, esD, epD, hoD, hdD, hcD⟩ := hn2.count (PySem.Within.cons name v hw)
  refine wpAny_bind (wpAny_lookBehind hoD (by rw [hdD]; exact pastItsLine_dict (Nat.le_trans hcD (by rw [List.length_cons]; omega))) ?_)
  exact wpAny_pure (h _ ⟨(hs2.2 _ (Ne.symm I.ne)).trans I.obj, hn2, I.ne⟩ hs2)
theorem make_map {R : Result → Shared → Prop} {vs : List Value} {kw : List (Str × Value)} (X : K.In s.heap) (hm : PySem.W.makesIn K C = true)
    (hi : PySem.W.findIn K (.ref C) "__init__" = some (some (.ref f))) (hf : PySem.W.typeIn K (.ref f) = some (.type "function"))
    (h : codeAny (model prog w) (A.under (.builtin "type.__call__" ⟨.ref C :: vs, kw⟩)) (.call (.ref f) ⟨.ref (s.heap.objs.size + 1) :: vs, kw⟩) (PySem.W.InitBack (s.heap.objs.size + 1) R)
      { s with heap := (s.heap.push PySem.W.emptyDict).push (PySem.W.instObj C s.heap.objs.size) }) :
    codeAny (model prog w) A (.call (.ref C) ⟨vs, kw⟩) R s := by
  obtain ⟨hh, g, d, t, os⟩ := s
  exact PySem.W.make_core (PySem.W.makes_of X hm) (PySem.W.looks_findIn X hi) (fun self => PySem.W.bind_fn X self hf) (.inl rfl) h
end
def putF (f : Str) (v : V) : List (Str × V) → List (Str × V)
  | [] => [(f, v)]
  | (g, x) :: r => if g = f then (g, v) :: r else (g, x) :: putF f v r
theorem lookup_putF (f g : Str) (v : V) : ∀ fs : List (Str × V), (putF f v fs).lookup g = if g = f then some v else fs.lookup g
  | [] => by
    show List.lookup g [(f, v)] = _
    by_cases h : g = f
    · have hb : (g == f) = true := beq_iff_eq.mpr h
      simp only [List.lookup, hb, if_pos h]
    · have hb : (g == f) = false := beq_eq_false_iff_ne.mpr h
      simp only [List.lookup, hb, if_neg h]
  | (k, x) :: r => by
    have ih := lookup_putF f g v r
    rw [show putF f v ((k, x) :: r) = (if k = f then (k, v) :: r else (k, x) :: putF f v r) from rfl]
    by_cases hk : k = f
    · rw [if_pos hk]
      by_cases h : g = k
      · have hb : (g == k) = true := beq_iff_eq.mpr h
        simp only [List.lookup, hb, if_pos (h.trans hk)]
      · have hb : (g == k) = false := beq_eq_false_iff_ne.mpr h
        simp only [List.lookup, hb, if_neg (fun e : g = f => h (e.trans hk.symm))]
    · rw [if_neg hk]
      by_cases h : g = k
      · have hb : (g == k) = true := beq_iff_eq.mpr h
        simp only [List.lookup, hb, if_neg (fun e : g = f => hk (h.symm.trans e))]
      · have hb : (g == k) = false := beq_eq_false_iff_ne.mpr h
        simp only [List.lookup, hb]
        exact ih
theorem keys_putF (f : Str) (v : V) : ∀ fs : List (Str × V), f ∈ (putF f v fs).map (·.1) ∧ ∀ g, g ∈ fs.map (·.1) → g ∈ (putF f v fs).map (·.1)
  | [] => ⟨by simp [putF], fun g h => by simp at h⟩
  | (k, x) :: r => by
    obtain ⟨i1, i2⟩ := keys_putF f v r
    rw [show putF f v ((k, x) :: r) = (if k = f then (k, v) :: r else (k, x) :: putF f v r) from rfl]
    by_cases hk : k = f
    · rw [if_pos hk]
      subst hk
      exact ⟨by simp, fun g h => by simpa using h⟩
    · rw [if_neg hk]
      refine ⟨?_, fun g h => ?_⟩
      · rw [List.map_cons]
        exact List.mem_cons_of_mem _ i1
      · rw [List.map_cons] at h ⊢
        rcases List.mem_cons.mp h with e | e
        · exact List.mem_cons.mpr (.inl e)
        · exact List.mem_cons_of_mem _ (i2 g e)
theorem length_putF (f : Str) (v : V) : ∀ fs : List (Str × V), (putF f v fs).length ≤ fs.length + 1
  | [] => by simp [putF]
  | (k, x) :: r => by
    have ih := length_putF f v r
    rw [show putF f v ((k, x) :: r) = (if k = f then (k, v) :: r else (k, x) :: putF f v r) from rfl]
    by_cases hk : k = f
    · rw [if_pos hk, List.length_cons, List.length_cons]; omega
    · rw [if_neg hk, List.length_cons, List.length_cons]; omega
theorem RelO.some_of {v : V} {o : Option Value} (r : RelO (some v) o) : ∃ u, o = some u ∧ RelV v u := by
  cases o with
  | none => exact (show False from r).elim
  | some u => exact ⟨u, rfl, r⟩
theorem handed_of {v : V} {u : Value} (r : RelV v u) : PySem.W.handedIn u = true := by
  cases v with
  | non => cases (show u = Value.none from r); rfl
  | bl b => cases (show u = Value.bool b from r); rfl
  | int i => obtain ⟨t, e⟩ := (show ∃ t, u = Value.int i t from r); cases e; rfl
  | str x => obtain ⟨t, e⟩ := (show ∃ t, u = Value.str x t from r); cases e; rfl
  | byt b => obtain ⟨t, e⟩ := (show ∃ t, u = Value.bytes b t from r); cases e; rfl
  | flt b => obtain ⟨t, e⟩ := (show ∃ t, u = Value.float b t from r); cases e; rfl
  | ref a => cases (show u = Value.ref a from r); rfl
  | ty n => cases (show u = Value.type n from r); rfl
section
variable {P : Program} {w : World} {H H' : Hp} {h h' : Heap} {a C dx : Addr} {fs fs' : List (Str × V)}
theorem ins_get (hok : HOk P w H h) (e : H a = some (.ins C dx fs)) : ∃ mA, ObjM h a dx C mA ∧ (∀ f, RelO (fs.lookup f) (mA f)) ∧ PySem.Within mA (fs.map (·.1)) ∧ fs.length ≤ 1000 ∧ H dx = some (.own a) := by
  obtain ⟨d, z, ne, ob, mA, n, r, q⟩ := (show ObjOk P w H h a (.ins C dx fs) from hok a _ e)
  exact ⟨mA, ⟨ob, n, ne⟩, r, q, z, d⟩
end
structure Cls (K : PySem.W.Frag) (C : Addr) : Prop where
  pg : PySem.W.plainGet K C Str.empty = true
  hd : PySem.W.hasDictIn K C = true
  po : PySem.W.plainOver K C = true
  sa : PySem.W.findIn K (.ref C) "__setattr__" = some (some (.builtin "object.__setattr__"))
theorem Cls.get {K : PySem.W.Frag} {C : Addr} (c : Cls K C) (f : Str) : PySem.W.plainGet K C f = true := c.pg
def NoAttr (K : PySem.W.Frag) (C : Addr) (f : Str) : Prop := PySem.W.findIn K (.ref C) f = some none
theorem NoAttr.taker {K : PySem.W.Frag} {C : Addr} {f : Str} (n : NoAttr K C f) : PySem.W.takerIn K C f = some none := by
  unfold PySem.W.takerIn
  rw [show PySem.W.findIn K (.ref C) f = some none from n]
  rfl
structure Meth (K : PySem.W.Frag) (C : Addr) (m : Str) (f : Addr) : Prop where
  at_ : PySem.W.findIn K (.ref C) m = some (some (.ref f))
  fn : PySem.W.isFn K (.ref f) = true
  kp : PySem.W.keepIn K (.ref f) = true
section
variable {X : Cx} {pins : List (Addr × Obj)} {σ : St} {H : Hp} {s : Shared} {a C dx : Addr} {fs : List (Str × V)} {f : Str} {v : V} {A : Around} {E : Value → Shared → Prop}
theorem getattr_ok {b : Bool} {Q : Value → Shared → Prop} (I : Inv X pins σ H s) (e : H a = some (.ins C dx fs)) (c : Cls X.K C) (n : NoAttr X.K C f) (l : fs.lookup f = some v)
    (h : ∀ u s', Inv X pins σ H s' → RelV v u → Q u s') : wpAny (model X.prog X.w) A (getAttr (.ref a) f b) Q E s := by
  obtain ⟨mA, O, r, _, _, _⟩ := ins_get I.hok e
  obtain ⟨u, hu, ru⟩ := RelO.some_of (v := v) (o := mA f) (by rw [← l]; exact r f)
  exact get_map I.kIn O (c.get f) c.hd n hu (handed_of ru) (h u _ (I.tok _) ru)
theorem setattr_ok {y : V} {u : Value} {Q : Unit → Shared → Prop} (I : Inv X pins σ H s) (e : H a = some (.ins C dx fs)) (c : Cls X.K C) (n : NoAttr X.K C f) (hl : fs.length < 1000) (ry : RelV y u)
    (h : ∀ s', Inv X pins σ (upd H a (.ins C dx (putF f y fs))) s' → Q () s') : wpAny (model X.prog X.w) A (setAttr (.ref a) f u) Q E s := by
  obtain ⟨mA, O, r, wi, _, ho⟩ := ins_get I.hok e
  have hz : (fs.map (·.1)).length ≤ sizeLine := by rw [List.length_map, sizeLine_eq]; omega
  refine set_map I.kIn O c.sa c.po n.taker c.hd wi hz fun h' O' sb => h _ ?_
  have hd : ∃ o, h'.get? dx = some o := let ⟨o, _, _, e', _⟩ := O'.ns; ⟨o, e'⟩
  refine I.write (x := a) (e := dx) (by rw [e]; exact True.intro) (.inr ho) (fun b q hb z => (sb.2 b hb).trans z) hd ?_
  refine ⟨by rw [upd_ne O.ne]; exact ho, ?_, O.ne, O'.obj, _, O'.ns, fun g => ?_, fun g hg => ?_⟩
  · have := length_putF f y fs; omega
  · show RelO ((putF f y fs).lookup g) (if g = f then some u else mA g)
    rw [lookup_putF]
    by_cases q : g = f
    · rw [if_pos q, if_pos q]; exact ry
    · rw [if_neg q, if_neg q]; exact r g
  · by_cases q : g = f
    · rw [q]; exact (keys_putF f y fs).1
    · refine (keys_putF f y fs).2 g (wi g fun z => hg ?_)
      show (if g = f then some u else mA g) = none
      rw [if_neg q]; exact z
theorem Inv.made (I : Inv X pins σ H s) : Inv X pins σ (upd (upd H s.heap.objs.size (.own (s.heap.objs.size + 1))) (s.heap.objs.size + 1) (.ins C s.heap.objs.size []))
    { s with heap := (s.heap.push PySem.W.emptyDict).push (PySem.W.instObj C s.heap.objs.size) } := by
  have e1 : (s.heap.push PySem.W.emptyDict).get? s.heap.objs.size = some PySem.W.emptyDict := Heap.get?_push_size s.heap rfl
  have e2 : ((s.heap.push PySem.W.emptyDict).push (PySem.W.instObj C s.heap.objs.size)).get? (s.heap.objs.size + 1) = some (PySem.W.instObj C s.heap.objs.size) := by
    have := Heap.get?_push_size (s.heap.push PySem.W.emptyDict) (o := PySem.W.instObj C s.heap.objs.size) rfl
    rwa [Heap.size_push] at this
  have e3 : (s.heap.push PySem.W.emptyDict).Ns s.heap.objs.size (fun _ => none) := ⟨PySem.W.emptyDict, #[], _, e1, rfl, (fun e he => absurd he (by simp)), fun _ => rfl⟩
  have I1 := I.laid (a := s.heap.objs.size) (o := .own (s.heap.objs.size + 1)) (h' := s.heap.push PySem.W.emptyDict) (t' := s.toks) (fun b u q => Heap.get?_push_of_some _ q) (Nat.le_refl _) ⟨_, e1⟩
  refine I1.laid (a := s.heap.objs.size + 1) (o := .ins C s.heap.objs.size []) (t' := s.toks) (fun b u q => Heap.get?_push_of_some _ q) (Nat.le_of_eq (Heap.size_push _ _)) ?_
  have ne : s.heap.objs.size ≠ s.heap.objs.size + 1 := Nat.ne_of_lt (Nat.lt_succ_self _)
  refine ⟨by rw [upd_ne ne, upd_same], Nat.zero_le _, ne, e2, fun _ => none, (Heap.Ns1.of_empty e3).at fun o q => Heap.get?_push_of_some _ q, fun _ => True.intro, fun y hy => absurd rfl hy⟩
theorem attr_of {prog : Program} {w : World} {env : Env} {e : Expr} {f : Str} {pos : Pos} {s : Shared} {Q : Value → Shared → Prop} (hb : attributeBase e f env (eval e env) = eval e env)
    (h : wpAny (model prog w) A (eval e env) (fun o s₁ => wpAny (model prog w) A (getAttr o f true) Q E s₁) E s) : wpAny (model prog w) A (eval (.Attribute e f pos) env) Q E s :=
  Attribute_any_ h (by rw [arm_eval_Attribute, hb])
end
def tFld (K : PySem.W.Frag) (ta : TE) (f : Str) : TE := fun σ H Q => ta σ H fun x H1 => ∃ a C dx fs v, x = .ref a ∧ H1 a = some (.ins C dx fs) ∧ Cls K C ∧ NoAttr K C f ∧ fs.lookup f = some v ∧ Q v H1
def sFld (K : PySem.W.Frag) (ta tv : TE) (f : Str) : TS := fun D σ H => tv σ H fun y H1 => ta σ H1 fun x H2 => ∃ a C dx fs, x = .ref a ∧ H2 a = some (.ins C dx fs) ∧ Cls K C ∧ NoAttr K C f ∧ fs.length < 1000 ∧
  D.nx σ (upd H2 a (.ins C dx (putF f y fs)))
section
variable {X : Cx} {o e value : Expr} {f : Str} {pos pos' tpos : Pos} {ta tv : TE}
theorem pe_fld (he : PE X e ta) (hb : attributeBase e f X.env (eval e X.env) = eval e X.env) : PE X (.Attribute e f pos) (tFld X.K ta f) := by
  intro pins s σ H Q I h
  refine attr_of hb (thn (he pins s σ H _ I h) fun u s1 ⟨x, H1, I1, rx, a, C, dx, fs, v, ex, ea, c, n, l, q⟩ => ?_)
  subst ex
  obtain rfl : u = Value.ref a := rx
  exact getattr_ok I1 ea c n l fun u' s2 I2 ru => ⟨v, H1, I2, ru, q⟩
theorem ps_fld (ha : PE X o ta) (hv : PE X value tv) (hs : swapsWith value (some (.Attribute o f pos')) pos.line X.env = pure false) : PS X (.Assign [.Attribute o f pos'] value pos) (sFld X.K ta tv f) := by
  intro pins s σ H D I h
  refine plainObj_wpAny_Assign_Attribute (thn (hv pins s σ H _ I h) fun u s1 ⟨y, H1, I1, ry, q⟩ => thn (ha pins s1 σ H1 _ I1 q) fun ov s2 ⟨x, H2, I2, rx, a, C, dx, fs, ex, ea, c, n, l, q2⟩ => ?_) hs
  subst ex
  obtain rfl : ov = Value.ref a := rx
  exact setattr_ok I2 ea c n l ry fun s3 I3 => ⟨σ, _, I3, q2⟩
end
section
variable {X : Cx} {pins : List (Addr × Obj)} {σ : St} {H : Hp} {s : Shared} {A : Around} {E : Value → Shared → Prop} {Q : Value → Shared → Prop} {c : Value} {b : Bool}
inductive TyOf (K : PySem.W.Frag) (H : Hp) : V → Value → Prop where
  | non : TyOf K H .non (.type "NoneType")
  | bl (x : Bool) : TyOf K H (.bl x) (.type "bool")
  | int (i : Int) : TyOf K H (.int i) (.type "int")
  | str (x : Str) : TyOf K H (.str x) (.type "str")
  | flt (x : UInt64) : TyOf K H (.flt x) (.type "float")
  | lst {a : Addr} {xs : List V} (e : H a = some (.lst xs)) : TyOf K H (.ref a) (.type "list")
  | frz {a : Addr} {o : Obj} {xs : List V} (e : H a = some (.frz o (.lst xs))) : TyOf K H (.ref a) (.type "list")
  | tup {a : Addr} {xs : List V} (e : H a = some (.tup xs)) : TyOf K H (.ref a) (.type "tuple")
  | dK {a : Addr} {kvs : List (Key × V)} (e : H a = some (.dK kvs)) : TyOf K H (.ref a) (.type "dict")
  | dT {a : Addr} {kvs : List (List Key × V)} (e : H a = some (.dT kvs)) : TyOf K H (.ref a) (.type "dict")
  | ins {a C dx : Addr} {fs : List (Str × V)} (e : H a = some (.ins C dx fs)) (cl : Cls K C) (ha : PySem.W.findIn K (.ref C) "__class__" = some (some (.builtin "object.__class__")))
      (hn : PySem.W.specialIn K (.builtin "object.__class__") "__get__" = some (some (.builtin "getset_descriptor.__get__"))) (htk : PySem.W.takesIn K (.builtin "object.__class__") = some true)
      (hm : PySem.W.mroIn K C (.type "object") = some true) : TyOf K H (.ref a) (.ref C)
theorem isinst_ok {x : V} {u t : Value} (I : Inv X pins σ H s) (rx : RelV x u) (ty : TyOf X.K H x t) (e : PySem.W.kitOne X.K t c = some b) (h : ∀ tk, Q (.bool b) { s with toks := tk }) :
    wpAny (model X.prog X.w) A (call (.builtin "isinstance") [u, c]) Q E s := by
  cases ty with
  | non => cases (show u = Value.none from rx); exact PySem.W.kia_one PySem.W.kitx_none I.kIn True.intro e (fun z => nomatch z) h
  | bl y => cases (show u = Value.bool y from rx); exact PySem.W.kia_one PySem.W.kitx_bool I.kIn True.intro e (fun z => nomatch z) h
  | int i => obtain ⟨t, q⟩ := (show ∃ t, u = Value.int i t from rx); cases q; exact PySem.W.kia_one PySem.W.kitx_int I.kIn True.intro e (fun z => nomatch z) h
  | str y => obtain ⟨t, q⟩ := (show ∃ t, u = Value.str y t from rx); cases q; exact PySem.W.kia_one PySem.W.kitx_str I.kIn True.intro e (fun z => nomatch z) h
  | flt y => obtain ⟨t, q⟩ := (show ∃ t, u = Value.float y t from rx); cases q; exact PySem.W.kia_one PySem.W.kitx_float I.kIn True.intro e (fun z => nomatch z) h
  | @lst a xs ea =>
    cases (show u = Value.ref a from rx)
    obtain ⟨_, _, n, _, h1⟩ := (show ObjOk X.prog X.w H s.heap a (.lst xs) from I.hok a _ ea)
    exact PySem.W.kia_one PySem.W.kitx_list I.kIn ⟨_, h1, rfl⟩ e (fun z => nomatch z) h
  | @frz a ob xs ea =>
    cases (show u = Value.ref a from rx)
    obtain ⟨_, _, _, n, _, h1⟩ := (show ObjOk X.prog X.w H s.heap a (.frz ob (.lst xs)) from I.hok a _ ea)
    exact PySem.W.kia_one PySem.W.kitx_list I.kIn ⟨_, h1, rfl⟩ e (fun z => nomatch z) h
  | @tup a xs ea =>
    cases (show u = Value.ref a from rx)
    obtain ⟨_, _, _, p⟩ := (show ObjOk X.prog X.w H s.heap a (.tup xs) from I.hok a _ ea)
    obtain ⟨o, h1, h2, _⟩ := p
    exact PySem.W.kia_one PySem.W.kitx_tuple I.kIn ⟨o, h1, h2⟩ e (fun z => nomatch z) h
  | @dK a kvs ea =>
    cases (show u = Value.ref a from rx)
    obtain ⟨_, _, vs, _, p⟩ := (show ObjOk X.prog X.w H s.heap a (.dK kvs) from I.hok a _ ea)
    obtain ⟨o, es, ep, h1, h2, _⟩ := p
    exact PySem.W.kia_one PySem.W.kitx_dict I.kIn ⟨o, h1, h2.1⟩ e (fun z => nomatch z) h
  | @dT a kvs ea =>
    cases (show u = Value.ref a from rx)
    obtain ⟨_, _, xs, _, o, es, ep, h1, h2, _⟩ := (show ObjOk X.prog X.w H s.heap a (.dT kvs) from I.hok a _ ea)
    exact PySem.W.kia_one PySem.W.kitx_dict I.kIn ⟨o, h1, h2.1⟩ e (fun z => nomatch z) h
  | @ins a C dx fs ea cl ha hn htk hm =>
    cases (show u = Value.ref a from rx)
    obtain ⟨mA, O, _⟩ := ins_get I.hok ea
    obtain ⟨od, J, _⟩ := O.look
    exact PySem.W.kia_one (PySem.W.kitx_own (cl.get _) cl.hd ha hn htk hm) I.kIn J e (fun z => nomatch z) h
end
end L2
namespace L2
open PySem PySem.Spec PyProof.Rows
structure Room (k : Nat) (A : Around) : Prop where
  hd : A.handled = none
  dp : A.depth + 3 * k + 5 < recursionLimit
  un : A.units + 16 * k + 200 < cLine
  gd : A.guards = some []
theorem Room.mono {j k : Nat} {A : Around} (r : Room k A) (h : j ≤ k) : Room j A := ⟨r.hd, by have := r.dp; omega, by have := r.un; omega, r.gd⟩
theorem Room.deeper {k : Nat} {A : Around} (r : Room (k + 1) A) (env : Env) : Room k (A.deeper env) :=
  ⟨r.hd, by have := r.dp; show A.depth + 1 + 3 * k + 5 < _; omega, by have := r.un; show A.units + 3 + 16 * k + 200 < _; omega, r.gd⟩
theorem Room.in1 {k : Nat} {A : Around} (r : Room (k + 1) A) : Room k A.in1 :=
  ⟨r.hd, by have := r.dp; show A.depth + 3 * k + 5 < _; omega, by have := r.un; show A.units + 1 + 16 * k + 200 < _; omega, r.gd⟩
theorem make_depth {A : Around} {C : Addr} {us : List Value} {kw : List (Str × Value)} : (A.under (.builtin "type.__call__" ⟨.ref C :: us, kw⟩)).depth = A.depth + 1 := by
  first | rfl | simp [Around.under, Code.weight, Code.isCreation, Code.isGuard, Code.isCaller, Code.frames, Code.isFrame, guardIds]
theorem make_units {A : Around} {C : Addr} {us : List Value} {kw : List (Str × Value)} : (A.under (.builtin "type.__call__" ⟨.ref C :: us, kw⟩)).units = A.units + 1 := by
  first | rfl | simp [Around.under, Code.cUnits, Code.frames, Code.isFrame]
theorem Room.make {k : Nat} {A : Around} (r : Room (k + 1) A) (C : Addr) (us : List Value) (kw : List (Str × Value)) : Room k (A.under (.builtin "type.__call__" ⟨.ref C :: us, kw⟩)) :=
  ⟨r.hd, by have := r.dp; rw [make_depth]; omega, by have := r.un; rw [make_units]; omega, by have := r.gd; first | exact this | simpa [Around.under, Code.guards, Code.isGuard, guardIds, pushGuards] using this⟩
theorem Room.depth {k : Nat} {A : Around} (r : Room k A) : A.depth < recursionLimit := by have := r.dp; omega
theorem Room.units {k : Nat} {A : Around} (r : Room k A) : A.units + 64 < cLine := by have := r.un; omega
def tNil : TA := fun _ H Q => Q [] H
def tCons (ta : TE) (tr : TA) : TA := fun σ H Q => ta σ H fun x H1 => tr σ H1 fun xs H2 => Q (x :: xs) H2
section
variable {X : Cx} {e : Expr} {es : List Expr} {te : TE} {t : TA} {pos : Pos}
theorem pa_nil : PA X [] tNil := fun _ _ _ _ H Q I h => Calls.spliced_nil ⟨[], H, I, .nil, h⟩
theorem pa_cons (ha : PE X e te) (hr : PA X es t) (hs : starEach (e :: es) X.env = (false, eval e X.env) :: starEach es X.env := by rfl) : PA X (e :: es) (tCons te t) := by
  intro pos pins s σ H Q I h
  rw [hs]
  show wpAny _ _ (spliced ((false, eval e X.env) :: backTo pos (starEach es X.env))) _ _ s
  refine Calls.spliced_cons (thn (ha pins s σ H _ I h) fun u s1 ⟨x, H1, I1, r1, q1⟩ => ?_)
  exact thn (hr pos pins s1 σ H1 _ I1 q1) fun us s2 ⟨xs, H2, I2, r2, q2⟩ => ⟨x :: xs, H2, I2, .cons r1 r2, q2⟩
def tTup (t : TA) : TE := fun σ H Q => t σ H fun xs H1 => xs.length ≤ sizeLine ∧ ∀ p, H1 p = none → Q (.ref p) (upd H1 p (.tup xs))
def tLst (t : TA) : TE := fun σ H Q => t σ H fun xs H1 => xs.length ≤ sizeLine ∧ ∀ p, H1 p = none → Q (.ref p) (upd H1 p (.lst xs))
theorem pe_tup {x1} (h : PA X es t) : PE X (.Tuple es x1 pos) (tTup t) := by
  intro pins s σ H Q I hq
  refine wpAny_Tuple_spliced (thn (h pos pins s σ H _ I hq) fun us s1 ⟨xs, H1, I1, r, z, q⟩ => ⟨by rw [← r.length]; exact z, ?_⟩)
  have hf : H1 s1.heap.objs.size = none := I1.hok.fresh (Nat.le_refl _)
  refine ⟨.ref s1.heap.objs.size, upd H1 s1.heap.objs.size (.tup xs), I1.laid (t' := s1.toks) (fun b u e => Heap.get?_push_of_some _ e) (Nat.le_refl _) ?_, rfl, q _ hf⟩
  exact ⟨z, us, r, ⟨_, Heap.get?_push_size _ rfl, rfl, rfl, _, rfl⟩⟩
theorem pe_lst (h : PA X es t) : PE X (.List es pos) (tLst t) := by
  intro pins s σ H Q I hq
  refine wpAny_List_spliced (thn (h pos pins s σ H _ I hq) fun us s1 ⟨xs, H1, I1, r, z, q⟩ => ⟨by rw [← r.length]; exact z, ?_⟩)
  have hf : H1 s1.heap.objs.size = none := I1.hok.fresh (Nat.le_refl _)
  refine ⟨.ref s1.heap.objs.size, upd H1 s1.heap.objs.size (.lst xs), I1.laid (t' := s1.toks) (fun b u e => Heap.get?_push_of_some _ e) (Nat.le_refl _) ?_, rfl, q _ hf⟩
  exact ⟨z, us, 0, r, Heap.get?_push_size _ rfl⟩
end
abbrev Sp := List V → Hp → VK → XK → Prop
abbrev CXT := List Env → Hp → Shared → XK → Value → Shared → Prop
structure Env0 (P : Program) (w : World) (K : PySem.W.Frag) (mg : Str → Option Value) (base : Heap) (A : Around) (outer : List Env) (s : Shared) (H : Hp) : Prop where
  frames : A.frames = some outer
  mod : Mod K mg base
  bs : ∀ b o, base.get? b = some o → s.heap.get? b = some o ∧ H b = none
  bsz : base.objs.size ≤ s.heap.objs.size
  funs : s.heap.FunFrames base outer
  frf : ∀ b ∈ frs outer, H b = none
  hok : HOk P w H s.heap
  bare : AllBare s.gens
def CE (outer : List Env) (P : Program) (w : World) (H : Hp) (s : Shared) (Q : VK) (u : Value) (s' : Shared) : Prop :=
  ∃ v H', s'.os = s.os ∧ AllBare s'.gens ∧ Un (frs outer) [] H H' s.heap s'.heap ∧ HOk P w H' s'.heap ∧ RelV v u ∧ Q v H'
def CR (CX : CXT) (outer : List Env) (P : Program) (w : World) (H : Hp) (s : Shared) (Q : VK) (E : XK) (r : Result) (s' : Shared) : Prop :=
  match r with
  | .ok (.ret u) => CE outer P w H s Q u s'
  | .ok _ => False
  | .error e => CX outer H s E e s'
structure FnOk (P : Program) (w : World) (K : PySem.W.Frag) (mg : Str → Option Value) (base : Heap) (CX : CXT) (k : Nat) (f : Addr) (fd : FuncData) (ps : List Str) (sp : Sp) : Prop where
  len : ∀ vs H Q E, sp vs H Q E → vs.length = ps.length
  run : ∀ (A : Around) (outer : List Env) (s : Shared) (H : Hp) (args : Args) (us : List Value) (vs : List V) (Q : VK) (E : XK), Room k A → Env0 P w K mg base A outer s H → BindsTo s fd args (ps.zip us) → Vals vs us → sp vs H Q E →
    codeAny (model P w) A (.call (.ref f) args) (CR CX outer P w H s Q E) s
theorem FnOk.mono {P : Program} {w : World} {K : PySem.W.Frag} {mg : Str → Option Value} {base : Heap} {CX : CXT} {j k : Nat} {f : Addr} {fd : FuncData} {ps : List Str} {sp : Sp} (F : FnOk P w K mg base CX j f fd ps sp) (h : j ≤ k) :
    FnOk P w K mg base CX k f fd ps sp := ⟨F.len, fun A outer s H args us vs Q E hr => F.run A outer s H args us vs Q E (hr.mono h)⟩
theorem FnOk.imp {P : Program} {w : World} {K : PySem.W.Frag} {mg : Str → Option Value} {base : Heap} {CX : CXT} {k : Nat} {f : Addr} {fd : FuncData} {ps : List Str} {sp sp' : Sp} (F : FnOk P w K mg base CX k f fd ps sp)
    (h : ∀ vs H Q E, sp' vs H Q E → sp vs H Q E) : FnOk P w K mg base CX k f fd ps sp' :=
  ⟨fun vs H Q E q => F.len vs H Q E (h _ _ _ _ q), fun A outer s H args us vs Q E hr he hb hv hs => F.run A outer s H args us vs Q E hr he hb hv (h _ _ _ _ hs)⟩
theorem Env0.make {P : Program} {w : World} {K : PySem.W.Frag} {mg : Str → Option Value} {base : Heap} {A : Around} {outer : List Env} {s : Shared} {H : Hp} (e : Env0 P w K mg base A outer s H) (C : Addr) (us : List Value) (kw : List (Str × Value)) :
    Env0 P w K mg base (A.under (.builtin "type.__call__" ⟨.ref C :: us, kw⟩)) outer s H := ⟨by first | exact e.frames | (simpa [Around.under, Code.envs, Code.isFrame, pushEnvs] using e.frames), e.mod, e.bs, e.bsz, e.funs, e.frf, e.hok, e.bare⟩
theorem Env0.in1 {P : Program} {w : World} {K : PySem.W.Frag} {mg : Str → Option Value} {base : Heap} {A : Around} {outer : List Env} {s : Shared} {H : Hp} (e : Env0 P w K mg base A outer s H) :
    Env0 P w K mg base A.in1 outer s H := ⟨e.frames, e.mod, e.bs, e.bsz, e.funs, e.frf, e.hok, e.bare⟩
section
variable {X : Cx} {pins : List (Addr × Obj)} {σ : St} {H : Hp} {s s' : Shared}
theorem Inv.env0 (I : Inv X pins σ H s) : Env0 X.prog X.w X.K X.mg X.base X.A X.stack s H :=
  ⟨I.ok.frames, I.ok.mod, I.bs, Nat.le_trans I.ok.bsz I.sz, I.stack, I.stkFree, I.hok, I.bare⟩
theorem Inv.after {Q : VK} {u : Value} (I : Inv X pins σ H s) (h : CE X.stack X.prog X.w H s Q u s') : EP X pins σ Q u s' := by
  obtain ⟨v, H', os, bare, un, hok, r, q⟩ := h
  obtain ⟨hh, g, d, t, os'⟩ := s'
  obtain rfl : os' = s.os := os
  exact ⟨v, H', I.call (h' := hh) (g' := g) (d' := d) (t' := t) (ch := []) un hok bare (fun b z => absurd z (by simp)), r, q⟩
end
def tCall (sp : Sp) (dvs : List V) (E : XK) (t : TA) : TE := fun σ H Q => t σ H fun vs H1 => sp (vs ++ dvs) H1 Q E
def tMake (C : Addr) (sp : Sp) (dvs : List V) (E : XK) (t : TA) : TE := fun σ H Q => t σ H fun vs H1 => ∀ x dx, H1 x = none → H1 dx = none → dx ≠ x →
  sp (.ref x :: (vs ++ dvs)) (upd (upd H1 dx (.own x)) x (.ins C dx [])) (fun v H2 => v = .non ∧ Q (.ref x) H2) E
def Binds (K : PySem.W.Frag) (fd : FuncData) (ps : List Str) (ds : List Value) : Prop :=
  ∀ (s : Shared) (us : List Value), K.In s.heap → (us ++ ds).length = ps.length → BindsTo s fd ⟨us, []⟩ (ps.zip (us ++ ds))
theorem Binds.all {K : PySem.W.Frag} {fd : FuncData} {ps : List Str} (h : ∀ us : List Value, us.length = ps.length → bindArgs fd ⟨us, []⟩ = pure (ps.zip us)) : Binds K fd ps [] := fun s us _ hl => by
  rw [List.append_nil] at hl ⊢
  exact .of_eq (h us hl)
def Passes (CX : CXT) (X : Cx) (E : XK) : Prop := ∀ (pins : List (Addr × Obj)) (σ : St) (H : Hp) (s : Shared) (e : Value) (s' : Shared), Inv X pins σ H s → CX X.stack H s E e s' → X.xe e s'
section
variable {X : Cx} {CX : CXT} {k : Nat} {f C : Addr} {fd : FuncData} {ps : List Str} {sp : Sp} {dvs : List V} {ds : List Value} {E : XK} {x m : Str} {p pos apos : Pos} {e o : Expr} {es : List Expr} {ta : TE} {t : TA}
theorem run_fn {pins : List (Addr × Obj)} {σ : St} {H : Hp} {s : Shared} {Q : VK} {us : List Value} {vs : List V} (F : FnOk X.prog X.w X.K X.mg X.base CX k f fd ps sp) (hr : Room k X.A) (hb : Binds X.K fd ps ds) (hd : Vals dvs ds) (hx : Passes CX X E)
    (I : Inv X pins σ H s) (r : Vals vs us) (h : sp (vs ++ dvs) H Q E) : wpAny (model X.prog X.w) X.A (call (.ref f) us) (EP X pins σ Q) X.xe s := by
  have r2 : Vals (vs ++ dvs) (us ++ ds) := r.append hd
  have hl : (us ++ ds).length = ps.length := by rw [← r2.length]; exact F.len _ _ _ _ h
  refine wpAny_call (codeAny_mono (F.run X.A X.stack s H ⟨us, []⟩ (us ++ ds) (vs ++ dvs) Q E hr I.env0 (hb s us I.kIn hl) r2 h) fun r s' hq => ?_)
  cases r with
  | error e => exact hx pins σ H s e s' I hq
  | ok fl =>
    cases fl with
    | ret u => exact I.after hq
    | next => exact False.elim hq
    | brk => exact False.elim hq
    | cont => exact False.elim hq
theorem pe_call (F : FnOk X.prog X.w X.K X.mg X.base CX k f fd ps sp) (hr : Room k X.A) (hg : Gl X x) (hm : X.mg x = some (.ref f)) (hk : PySem.W.keepIn X.K (.ref f) = true) (hb : Binds X.K fd ps ds) (hd : Vals dvs ds) (hx : Passes CX X E)
    (ha : PA X (e :: es) t) (hdb : (x == ("__debug__" : Str)) = false := by decide) (he : starEach (e :: es) X.env = (false, eval e X.env) :: starEach es X.env := by rfl) (hpl : (backTo pos (starEach es X.env)).any (·.1) = false := by rfl) :
    PE X (.Call (.Name x p) (e :: es) [] pos) (tCall sp dvs E t) := by
  intro pins s σ H Q I h
  refine wpAny_Call_Name_kw (ld_glob I hg hm ?_ hdb)
  refine PySem.W.callWith_K (h₀ := X.base) I.ok.mod.kin hk (thn (ha pos pins s σ H _ I h) fun us s1 ⟨vs, H1, I1, r, q⟩ => ⟨I1.kIn, ?_⟩) he hpl
  exact run_fn F hr hb hd hx I1 r q
structure Mk (K : PySem.W.Frag) (C f : Addr) : Prop where
  makes : PySem.W.makesIn K C = true
  init : PySem.W.findIn K (.ref C) "__init__" = some (some (.ref f))
  fn : PySem.W.isFn K (.ref f) = true
  kp : PySem.W.keepIn K (.ref C) = true
theorem run_make {pins : List (Addr × Obj)} {σ : St} {H : Hp} {s : Shared} {Q : VK} {us : List Value} {vs : List V} (M : Mk X.K C f) (F : FnOk X.prog X.w X.K X.mg X.base CX k f fd ps sp) (hr : Room (k + 1) X.A) (hb : Binds X.K fd ps ds) (hd : Vals dvs ds)
    (hx : Passes CX X E) (I : Inv X pins σ H s) (r : Vals vs us)
    (h : ∀ x dx, H x = none → H dx = none → dx ≠ x → sp (.ref x :: (vs ++ dvs)) (upd (upd H dx (.own x)) x (.ins C dx [])) (fun v H2 => v = .non ∧ Q (.ref x) H2) E) :
    wpAny (model X.prog X.w) X.A (call (.ref C) us) (EP X pins σ Q) X.xe s := by
  have hq := h (s.heap.objs.size + 1) s.heap.objs.size (I.hok.fresh (Nat.le_succ _)) (I.hok.fresh (Nat.le_refl _)) (Nat.ne_of_lt (Nat.lt_succ_self _))
  have I2 := Inv.made (C := C) I
  have r2 : Vals (V.ref (s.heap.objs.size + 1) :: (vs ++ dvs)) (Value.ref (s.heap.objs.size + 1) :: (us ++ ds)) := .cons rfl (r.append hd)
  have hl : (Value.ref (s.heap.objs.size + 1) :: us ++ ds).length = ps.length := by
    have e := r2.length
    rw [F.len _ _ _ _ hq] at e
    exact e.symm
  refine wpAny_call (make_map (f := f) I.kIn M.makes M.init (beq_iff_eq.mp M.fn) (codeAny_mono (F.run _ X.stack _ _ ⟨Value.ref (s.heap.objs.size + 1) :: us, []⟩ (Value.ref (s.heap.objs.size + 1) :: (us ++ ds)) _ _ E (hr.make C us [])
    (I2.env0.make C us []) (hb _ (Value.ref (s.heap.objs.size + 1) :: us) I2.kIn hl) r2 hq) fun r s' hq' => ?_))
  cases r with
  | error e => exact hx pins σ _ _ e s' I2 hq'
  | ok fl =>
    cases fl with
    | ret u =>
      obtain ⟨v, H', I3, rv, ev, q3⟩ := I2.after hq'
      subst ev
      exact ⟨rv, ⟨V.ref (s.heap.objs.size + 1), H', I3, rfl, q3⟩⟩
    | next => exact False.elim hq'
    | brk => exact False.elim hq'
    | cont => exact False.elim hq'
theorem pe_make (M : Mk X.K C f) (F : FnOk X.prog X.w X.K X.mg X.base CX k f fd ps sp) (hr : Room (k + 1) X.A) (hg : Gl X x) (hm : X.mg x = some (.ref C)) (hb : Binds X.K fd ps ds) (hd : Vals dvs ds) (hx : Passes CX X E)
    (ha : PA X (e :: es) t) (hdb : (x == ("__debug__" : Str)) = false := by decide) (he : starEach (e :: es) X.env = (false, eval e X.env) :: starEach es X.env := by rfl) (hpl : (backTo pos (starEach es X.env)).any (·.1) = false := by rfl) :
    PE X (.Call (.Name x p) (e :: es) [] pos) (tMake C sp dvs E t) := by
  intro pins s σ H Q I h
  refine wpAny_Call_Name_kw (ld_glob I hg hm ?_ hdb)
  refine PySem.W.callWith_K (h₀ := X.base) I.ok.mod.kin M.kp (thn (ha pos pins s σ H _ I h) fun us s1 ⟨vs, H1, I1, r, q⟩ => ⟨I1.kIn, ?_⟩) he hpl
  exact run_make M F hr hb hd hx I1 r q
end
structure FnScope (N P : List Str) (sc : Scope) : Prop where
  kind : sc.kind = .function
  co : sc.isCoroutine = false
  gen : sc.isGenerator = false
  nd : N.Nodup
  pre : N.take P.length = P
  par : ∀ x ∈ P, sc.names.lookup x = some .local ∨ sc.names.lookup x = some .cell
  nofree : ∀ y ∈ sc.names, y.2 ≠ .free
theorem bindL_out {kindOf : Str → Option NameKind} {x : Str} : ∀ {binds : List (Str × Value)} {m : Str → Option Value}, (∀ v, (x, v) ∉ binds) → bindL kindOf binds m x = m x
  | [], _, _ => rfl
  | (n, v) :: r, m, h => by
    unfold bindL
    rw [bindL_out fun w hw => h w (List.mem_cons_of_mem _ hw)]
    split
    · have : x ≠ n := by rintro rfl; exact h v List.mem_cons_self
      simp [this]
    · rfl
theorem bindC_out {kindOf : Str → Option NameKind} {x : Str} : ∀ {binds : List (Str × Value)} {m : Str → Option Value}, (∀ v, (x, v) ∉ binds) → bindC kindOf binds m x = m x
  | [], _, _ => rfl
  | (n, v) :: r, m, h => by
    unfold bindC
    rw [bindC_out fun w hw => h w (List.mem_cons_of_mem _ hw)]
    split
    · rfl
    · have : x ≠ n := by rintro rfl; exact h v List.mem_cons_self
      simp [this]
theorem bindL_get {kindOf : Str → Option NameKind} {x : Str} {v : Value} : ∀ {P : List Str} {vs : List Value} {i : Nat} {m : Str → Option Value}, P.Nodup → P[i]? = some x → vs[i]? = some v → kindOf x = some .local →
    bindL kindOf (P.zip vs) m x = some v
  | [], _, _, _, _, h, _, _ => by simp at h
  | _ :: _, [], _, _, _, _, h, _ => by simp at h
  | p :: P, w :: vs, 0, m, nd, h1, h2, hk => by
    simp at h1 h2; subst h1; subst h2
    show bindL kindOf ((p, w) :: P.zip vs) m p = _
    unfold bindL
    rw [bindL_out fun v hv => (List.nodup_cons.mp nd).1 (List.of_mem_zip hv).1, if_pos hk]
    simp
  | p :: P, w :: vs, i + 1, m, nd, h1, h2, hk => by
    show bindL kindOf ((p, w) :: P.zip vs) m x = _
    unfold bindL
    exact bindL_get (i := i) (List.nodup_cons.mp nd).2 (by simpa using h1) (by simpa using h2) hk
theorem bindC_get {kindOf : Str → Option NameKind} {x : Str} {v : Value} : ∀ {P : List Str} {vs : List Value} {i : Nat} {m : Str → Option Value}, P.Nodup → P[i]? = some x → vs[i]? = some v → kindOf x ≠ some .local →
    bindC kindOf (P.zip vs) m x = some v
  | [], _, _, _, _, h, _, _ => by simp at h
  | _ :: _, [], _, _, _, _, h, _ => by simp at h
  | p :: P, w :: vs, 0, m, nd, h1, h2, hk => by
    simp at h1 h2; subst h1; subst h2
    show bindC kindOf ((p, w) :: P.zip vs) m p = _
    unfold bindC
    rw [bindC_out fun v hv => (List.nodup_cons.mp nd).1 (List.of_mem_zip hv).1, if_neg hk]
    simp
  | p :: P, w :: vs, i + 1, m, nd, h1, h2, hk => by
    show bindC kindOf ((p, w) :: P.zip vs) m x = _
    unfold bindC
    exact bindC_get (i := i) (List.nodup_cons.mp nd).2 (by simpa using h1) (by simpa using h2) hk
def start (N : List Str) (vs : List V) : St := vs.map some ++ List.replicate (N.length - vs.length) none
def cxOf (CX : CXT) (P : Program) (w : World) (K : PySem.W.Frag) (mg : Str → Option Value) (base : Heap) (N : List Str) (qual : Str) (scope : Scope) (f : Addr) (cd : Value) (A : Around) (outer : List Env) (s : Shared) (H : Hp) (E : XK) : Cx where
  prog := P
  w := w
  K := K
  mg := mg
  base := base
  A := A.deeper (envOfC qual scope s.heap.objs.size f cd)
  N := N
  s_0 := s
  H_0 := H
  env := envOfC qual scope s.heap.objs.size f cd
  outer := outer
  stack := envOfC qual scope s.heap.objs.size f cd :: outer
  ex := []
  calm := true
  fn := fun _ => true
  pn := []
  xe := fun e s' => wpAny (model P w) (A.deeper (envOfC qual scope s.heap.objs.size f cd)) (leaving (envOfC qual scope s.heap.objs.size f cd) e) (fun _ s'' => CX outer H s E e s'') (fun e' s'' => CX outer H s E e' s'') s'
theorem cell_has {sc : Scope} {n : Nat} {x : Str} (h : sc.names.lookup x = some .cell) : ∃ c, (cellsFrom n sc.names []).lookup x = some c := by
  have q := PySem.W.cellsFrom_some sc.names n [] (.inl h)
  exact Option.isSome_iff_exists.mp q
theorem inv_start {CX : CXT} {P : Program} {w : World} {K : PySem.W.Frag} {mg : Str → Option Value} {base : Heap} {N ps : List Str} {qual : Str} {scope : Scope} {f : Addr} {cd : Value} {A : Around} {outer : List Env} {s s1 : Shared} {H : Hp} {E : XK} {us : List Value} {vs : List V}
    (S : FnScope N ps scope) (hd : A.handled = none) (e0 : Env0 P w K mg base A outer s H) (hl : vs.length = ps.length) (r : Vals vs us)
    (x : InCallC s s.heap.objs.size (bindL (envOfC qual scope s.heap.objs.size f cd).kindOf (ps.zip us) fun _ => none) (cellsFrom (s.heap.objs.size + 1) scope.names []) (bindC (envOfC qual scope s.heap.objs.size f cd).kindOf (ps.zip us) fun _ => none) s1) :
    Inv (cxOf CX P w K mg base N qual scope f cd A outer s H E) [] (start N vs) H s1 := by
  have hpl : ps.length ≤ N.length := by have := congrArg List.length S.pre; rw [List.length_take] at this; omega
  obtain ⟨h1, tk, rfl, hk⟩ := x.done
  have noA : ∀ b : Addr, b ∉ (cxOf CX P w K mg base N qual scope f cd A outer s H E).ex := fun b z => absurd (show b ∈ ([] : List Addr) from z) (by simp)
  refine ⟨⟨e0.mod, S.kind, rfl, rfl, Nat.le_refl _, fun y z c h1 h2 => ?_, fun y hy => ?_, fun y c _ h => ?_, fun _ => hd, Around.frames_deeper e0.frames, .inr ⟨rfl, rfl⟩, fun b z => absurd z (noA b), e0.bs, e0.bsz, fun b _ _ => noA b, fun b z => absurd z (noA b), e0.funs, e0.frf⟩,
    rfl, e0.bare, Un.kept hk, ⟨_, x.toInCall.ns, fun i y v h1 h2 h3 => ?_⟩, fun y c h => ⟨_, x.cell y c h⟩, e0.hok.fresh (Nat.le_refl _), fun y c h => ?_, fun p hp => absurd (show p ∈ ([] : List (Addr × Obj)) from hp) (by simp), e0.hok.kept hk, ?_⟩
  · exact name_of_addr x.apart (PySem.mem_of_lookup h1) (PySem.mem_of_lookup h2)
  · have hy : scope.names.lookup y = some .cell ∨ scope.names.lookup y = some .free := hy
    rcases hy with hy | hy
    · exact cell_has hy
    · exact absurd rfl (S.nofree _ (PySem.mem_of_lookup hy))
  · exact Nat.le_of_lt (x.above y c (PySem.mem_of_lookup h))
  · have hi : i < vs.length := by
      unfold start at h2
      by_cases hi : i < vs.length
      · exact hi
      · rw [List.getElem?_append_right (by simpa using hi)] at h2
        rw [List.getElem?_replicate] at h2
        split at h2 <;> cases h2
    have ha : vs[i]? = some v := by
      unfold start at h2
      rw [List.getElem?_append_left (by simpa using hi), List.getElem?_map] at h2
      cases e : vs[i]? with
      | none => rw [e] at h2; cases h2
      | some a => rw [e] at h2; cases h2; rfl
    obtain ⟨u, hu, rv⟩ := r.get ha
    have hp : ps[i]? = some y := by
      rw [← S.pre, List.getElem?_take_of_lt (by omega)]; exact h1
    have ndP : ps.Nodup := by rw [← S.pre]; exact S.nd.sublist (List.take_sublist _ _)
    refine ⟨u, rv, ?_⟩
    rcases S.par y (List.mem_of_getElem? hp) with k | k
    · exact .inl ⟨k, bindL_get ndP hp hu k⟩
    · obtain ⟨c, e⟩ := cell_has (n := s.heap.objs.size + 1) k
      refine .inr ⟨.inl k, c, e, ?_⟩
      have q := x.cell y c e
      rw [bindC_get ndP hp hu (by show scope.names.lookup y ≠ _; rw [k]; decide)] at q
      exact q
  · exact e0.hok.fresh (Nat.le_of_lt (x.above y c (PySem.mem_of_lookup h)))
  · unfold start
    show _ = N.length
    rw [List.length_append, List.length_map, List.length_replicate]
    omega
theorem fn_of {CX : CXT} {P : Program} {w : World} {K : PySem.W.Frag} {mg : Str → Option Value} {base : Heap} {k : Nat} {f : Addr} {name qual : Str} {params : Arguments} {body : List Stmt} {scope : Scope} {dV kV doc pm cdv ct oc : Value} {an od : Option Addr}
    {osl : Array (Option Value)} {N ps : List Str} {sp : Sp} (lk : K.lookup f = some ⟨oc, od, .func (PySem.W.fnOf name qual params body scope dV kV doc pm an cdv ct), osl⟩) (hcd : PySem.W.codeIn K cdv qual = true) (S : FnScope N ps scope)
    (len : ∀ vs H Q E, sp vs H Q E → vs.length = ps.length)
    (hbody : ∀ (A : Around) (outer : List Env) (s : Shared) (H : Hp) (vs : List V) (Q : VK) (E : XK), Room k (A.deeper (envOfC qual scope s.heap.objs.size f cdv)) → sp vs H Q E →
      ∃ t, PSs (cxOf CX P w K mg base N qual scope f cdv A outer s H E) body t ∧ t { nx := fun _ H' => Q .non H', rt := Q } (start N vs) H) :
    FnOk P w K mg base CX (k + 1) f (PySem.W.fnOf name qual params body scope dV kV doc pm an cdv ct) ps sp := by
  refine ⟨len, fun A outer s H args us vs Q E hr e0 hb r hsp => ?_⟩
  have hl := len _ _ _ _ hsp
  have KX : K.In s.heap := e0.mod.kin.keeps fun b o e => (e0.bs b o e).1
  have lim : s.heap.NoLimit := e0.mod.nolimit.keeps fun b o e => (e0.bs b o e).1
  have hkind : ∀ y ∈ ps.zip us, scope.names.lookup y.1 = some .local ∨ (scope.names.lookup y.1 = some .cell ∧ ((cellsFrom (s.heap.objs.size + 1) scope.names []).lookup y.1).isSome = true) := fun ⟨n, v⟩ hy => by
    rcases S.par n (List.of_mem_zip hy).1 with q | q
    · exact .inl q
    · exact .inr ⟨q, PySem.W.cellsFrom_some _ _ _ (.inl q)⟩
  refine codeAny_call_function hr.depth (KX _ _ lk) rfl S.co S.gen rfl (PySem.W.codeRec_of KX hcd) (hb _ _ _ _ ?_)
  refine wpAny_newFunctionEnv_cells S.kind hkind fun env he s1 x => ?_
  subst he
  refine ⟨lim.keeps x.toInCall.keep, codeAny_func ?_⟩
  obtain ⟨t, ht, hq⟩ := hbody A outer s H vs Q E (hr.deeper _) hsp
  have I : Inv (cxOf CX P w K mg base N qual scope f cdv A outer s H E) [] (start N vs) H s1 := inv_start S hr.hd e0 hl r x
  refine wpAny_mono (ht [] s1 (start N vs) H _ I hq) (fun fl s' hs => ?_) fun e s' hs => hs
  have fin : ∀ {σ' : St} {H' : Hp} {v : V} {u : Value}, Inv (cxOf CX P w K mg base N qual scope f cdv A outer s H E) [] σ' H' s' → RelV v u → Q v H' → CE outer P w H s Q u s' :=
    fun {σ' H' v u} J rv q => ⟨v, H', J.os, J.bare, J.base, J.hok, rv, q⟩
  cases fl with
  | ret u =>
    obtain ⟨v, σ', H', J, rv, q⟩ := hs
    exact fin J rv q
  | next =>
    obtain ⟨σ', H', J, q⟩ := hs
    exact fin (v := V.non) (u := Value.none) J rfl q
  | brk =>
    obtain ⟨_, _, _, q⟩ := hs
    exact False.elim q
  | cont =>
    obtain ⟨_, _, _, q⟩ := hs
    exact False.elim q
end L2
namespace L2
open PySem PySem.Spec PyProof.Rows
section
variable {X : Cx} {x : Str} {p pos : Pos} {e : Expr} {es : List Expr} {t : TA} {id T : String} {r : List V → Hp → VK → Prop}
def tCB (r : List V → Hp → VK → Prop) (t : TA) : TE := fun σ H Q => t σ H fun vs H1 => r vs H1 Q
theorem pe_callB (hc : CallR X (.builtin id) r) (hg : Gl X x) (hm : X.mg x = none) (hv : bootBuiltins x = some (.builtin id)) (ha : PA X (e :: es) t) (hn : x ≠ "__name__" := by decide) (hdb : (x == ("__debug__" : Str)) = false := by decide)
    (he : starEach (e :: es) X.env = (false, eval e X.env) :: starEach es X.env := by rfl) (hpl : (backTo pos (starEach es X.env)).any (·.1) = false := by rfl) : PE X (.Call (.Name x p) (e :: es) [] pos) (tCB r t) := by
  intro pins s σ H Q I h
  refine wpAny_Call_Name_kw (ld_blt I hg hm hv ?_ hn hdb)
  exact PyProof.Rows.callWith_builtin1 (thn (ha pos pins s σ H _ I h) fun us s1 ⟨vs, H1, I1, r1, q1⟩ => hc pins s1 σ H1 vs us Q I1 r1 q1) he hpl
theorem pe_callTy (hc : CallR X (.type T) r) (hg : Gl X x) (hm : X.mg x = none) (hv : bootBuiltins x = some (.type T)) (ha : PA X (e :: es) t) (hn : x ≠ "__name__" := by decide) (hdb : (x == ("__debug__" : Str)) = false := by decide)
    (he : starEach (e :: es) X.env = (false, eval e X.env) :: starEach es X.env := by rfl) (hpl : (backTo pos (starEach es X.env)).any (·.1) = false := by rfl) : PE X (.Call (.Name x p) (e :: es) [] pos) (tCB r t) := by
  intro pins s σ H Q I h
  refine wpAny_Call_Name_kw (ld_blt I hg hm hv ?_ hn hdb)
  exact PyProof.Rows.callWith_type1 (thn (ha pos pins s σ H _ I h) fun us s1 ⟨vs, H1, I1, r1, q1⟩ => hc pins s1 σ H1 vs us Q I1 r1 q1) he hpl
end
end L2
namespace HT
open PySem PyProof.Rows
def lexLt : List Int → List Int → Bool
  | [], [] => false
  | [], _ :: _ => true
  | _ :: _, [] => false
  | x :: xs, y :: ys => if x = y then lexLt xs ys else decide (x < y)
theorem lexLt_cons (x y : Int) (xs ys : List Int) : lexLt (x :: xs) (y :: ys) = if x = y then lexLt xs ys else decide (x < y) := rfl
theorem lexLt_nil_nil : lexLt [] [] = false := rfl
section
variable {prog : Program} {w : World} {A : Around} {E : Value → Shared → Prop} {s : Shared}
theorem cat_tup {t b : Addr} {vs ws : List Value} {Q : Value → Shared → Prop} (ht : IsTup s.heap t vs.toArray) (hb : IsTup s.heap b ws.toArray) (hv : vs ≠ [])
    (h1 : ws = [] → Q (.ref t) s) (h2 : ws ≠ [] → Q (.ref s.heap.objs.size) { s with heap := s.heap.push { cls := .type "tuple", data := .seq (vs ++ ws).toArray } })
    (hsz : vs.length + ws.length ≤ sizeLine) : wpAny (model prog w) A (binaryOp .Add (.ref t) (.ref b)) Q E s := by
  obtain ⟨⟨cls, dd, data, sl⟩, ho, hc, n, hd⟩ := id ht
  obtain ⟨⟨cls2, dd2, data2, sl2⟩, ho2, hc2, n2, hd2⟩ := id hb
  simp only at hc hd hc2 hd2
  subst hc hd hc2 hd2
  have e : vs.toArray ++ ws.toArray = (vs ++ ws).toArray := by simp
  by_cases hw : ws = []
  · exact concat_meets ⟨_, ho, rfl⟩ ⟨_, ho2, rfl⟩ noFill_tuple_add seq_tuple_add PySem.F.slot_tuple_add PySem.F.entry_tuple_add (PySem.F.args_tuple_add_2 _ _)
      (tuple_addW1 t b vs.toArray ws.toArray n n2 dd dd2 sl sl2 (by simpa using hv) (by simp [hw])) ⟨ho, ho2, h1 hw⟩
  · refine concat_meets ⟨_, ho, rfl⟩ ⟨_, ho2, rfl⟩ noFill_tuple_add seq_tuple_add PySem.F.slot_tuple_add PySem.F.entry_tuple_add (PySem.F.args_tuple_add_2 _ _)
      (tuple_addW2 t b vs.toArray ws.toArray n n2 dd dd2 sl sl2 (by simpa using hv) (by simpa using hw) (by rw [List.size_toArray, List.size_toArray]; exact hsz)) ⟨ho, ho2, ?_⟩
    rw [e]
    exact h2 hw
def sIx (n d : Nat) : Option Int → Nat
  | none => d
  | some v => if v < 0 then (v + (n : Int)).toNat else min v.toNat n
theorem sIx_none (n d : Nat) : sIx n d none = d := rfl
theorem sIx_nat (n d k : Nat) : sIx n d (some (k : Int)) = min k n := by
  show (if (k : Int) < 0 then ((k : Int) + (n : Int)).toNat else min (k : Int).toNat n) = min k n
  rw [if_neg (by omega), Int.toNat_natCast]
theorem sIx_le (n d : Nat) (hd : d ≤ n) (o : Option Int) : sIx n d o ≤ n := by
  cases o with
  | none => exact hd
  | some v =>
    show (if v < 0 then (v + (n : Int)).toNat else min v.toNat n) ≤ n
    by_cases hv : v < 0
    · rw [if_pos hv]; omega
    · rw [if_neg hv]; exact Nat.min_le_right _ _
theorem clip_eq (v : Int) (n d : Nat) : (if v < 0 then max (v + (n : Int)) 0 else min v (n : Int)) = ((sIx n d (some v) : Nat) : Int) := by
  show (if v < 0 then max (v + (n : Int)) 0 else min v (n : Int)) = (((if v < 0 then (v + (n : Int)).toNat else min v.toNat n) : Nat) : Int)
  by_cases hv : v < 0
  · simp only [if_pos hv]; omega
  · simp only [if_neg hv]; omega
theorem adjust_gen (lo hi : Option Int) (n : Nat) : Builtin.Slice.sliceAdjust lo hi 1 (n : Int) = (((sIx n 0 lo : Nat) : Int), ((sIx n n hi : Nat) : Int)) := by
  have h1 : ¬ ((1 : Int) < 0) := by omega
  unfold Builtin.Slice.sliceAdjust
  simp only [h1, if_false]
  refine Prod.ext ?_ ?_
  · cases lo with
    | none => rfl
    | some v => exact clip_eq v n 0
  · cases hi with
    | none => rfl
    | some v => exact clip_eq v n n
theorem places_gen (i j : Nat) : Builtin.Slice.slicePlaces (i : Int) (j : Int) 1 = j - i := by
  unfold Builtin.Slice.slicePlaces
  have h1 : (1 : Int) > 0 := by omega
  simp only [h1, if_true, Int.ediv_one]
  split <;> omega
theorem slicePart_ {v : Value} {o : Option Int} {Q : Option Int → Shared → Prop} (p : IsPart v o) (h : Q o s) : wpAny (model prog w) A (Builtin.Slice.slicePartIndex v) Q E s := by
  cases p with
  | none => exact slicePart_none h
  | int i t => exact slicePart_int h
theorem sliceApplied_gen {sl : Addr} {vl vu : Value} {lo hi : Option Int} {n : Nat} {Q : Int × Int × Nat → Shared → Prop} (hs : s.heap.IsSliceOf sl vl vu .none) (pl : IsPart vl lo) (pu : IsPart vu hi)
    (h : Q (((sIx n 0 lo : Nat) : Int), 1, sIx n n hi - sIx n 0 lo) s) : wpAny (model prog w) A (Builtin.Slice.sliceApplied (.ref sl) (pure (n : Int))) Q E s := by
  obtain ⟨os, hos, hcs, hds⟩ := id hs
  unfold Builtin.Slice.sliceApplied Builtin.Slice.sliceFields
  refine wpAny_bind (wpAny_bind (wpAny_field hos hds (x := vl) rfl (wpAny_bind (wpAny_field hos hds (x := vu) rfl (wpAny_bind (wpAny_field hos hds (x := .none) rfl (wpAny_pure ?_)))))))
  refine wpAny_bind (slicePart_none ?_)
  show wpAny _ _ (if ((1 : Int) == 0) = true then _ else _) _ _ s
  rw [if_neg (by decide)]
  refine wpAny_bind (slicePart_ pl (wpAny_bind (slicePart_ pu (wpAny_bind (wpAny_pure ?_)))))
  show wpAny _ _ (match Builtin.Slice.sliceAdjust lo hi 1 (n : Int) with | (lo, hi) => pure (lo, (1 : Int), Builtin.Slice.slicePlaces lo hi 1)) _ _ s
  rw [adjust_gen lo hi n]
  show wpAny _ _ (pure (((sIx n 0 lo : Nat) : Int), (1 : Int), Builtin.Slice.slicePlaces ((sIx n 0 lo : Nat) : Int) ((sIx n n hi : Nat) : Int) 1)) _ _ s
  rw [places_gen]
  exact wpAny_pure h
theorem pick_gen (xs : Array Value) (i k : Nat) : ((List.range k).filterMap fun (m : Nat) => xs[((i : Int) + (m : Int) * 1).toNat]?).toArray = ((xs.toList.drop i).take k).toArray := by
  have e : (fun (m : Nat) => xs[((i : Int) + (m : Int) * 1).toNat]?) = fun m => xs[i + m]? := by
    funext m
    have : ((i : Int) + (m : Int) * 1).toNat = i + m := by omega
    rw [this]
  rw [e]
  have := pick_run xs i k
  rw [List.filterMap_map] at this
  have e2 : ((fun x => xs[x]?) ∘ fun x => i + x) = fun m => xs[i + m]? := rfl
  rw [e2] at this
  rw [this]
theorem getItem_tuple_cut {t sl : Addr} {items : Array Value} {vl vu : Value} {lo hi : Option Int} {Q : Value → Shared → Prop} (ht : IsTup s.heap t items) (hs : s.heap.IsSliceOf sl vl vu .none) (pl : IsPart vl lo) (pu : IsPart vu hi)
    (hw : ¬ (sIx items.size 0 lo = 0 ∧ sIx items.size items.size hi = items.size))
    (h : Q (.ref s.heap.objs.size) { s with heap := s.heap.push { cls := .type "tuple", data := .seq ((items.toList.drop (sIx items.size 0 lo)).take (sIx items.size items.size hi - sIx items.size 0 lo)).toArray } })
    (hsz : items.size ≤ sizeLine) : wpAny (model prog w) A (getItem (.ref t) (.ref sl)) Q E s := by
  have htake : sizeOk (.seq ((items.toList.drop (sIx items.size 0 lo)).take (sIx items.size items.size hi - sIx items.size 0 lo)).toArray) := by
    show ((items.toList.drop (sIx items.size 0 lo)).take (sIx items.size items.size hi - sIx items.size 0 lo)).toArray.size ≤ sizeLine
    rw [List.size_toArray, List.length_take, List.length_drop, Array.length_toList]
    omega
  have hj : sIx items.size items.size hi ≤ items.size := sIx_le _ _ (Nat.le_refl _) hi
  obtain ⟨os, hos, hcs, hds⟩ := id hs
  have hTs : s.TypeIs (.ref sl) "slice" := ⟨os, hos, hcs⟩
  unfold getItem
  try with_reducible refine wpAny_holding ?_
  first | refine wpAny_bind (wpAny_pure ?_) | skip
  refine wpAny_bind (wpAny_sequenceKey ht.typeIs (by decide) ?_)
  refine wpAny_bind (wpAny_callSpecial?_slot (name := Str.ofString "__getitem__") ht.typeIs PyProof.Rows.slot_tuple_getitem
    (wpAny_call_entry PyProof.Rows.slot_tuple_getitem ht.typeIs entry_tuple_getitem ?_ (args_tuple_getitem _ _)))
  show wpAny _ _ (Builtin.Tuple.tupleItemsOf (.ref t) >>= _) _ _ s
  refine wpAny_bind (tupleItemsOf_ ht ?_)
  refine wpAny_bind (wpAny_typeOf hTs ?_)
  rw [if_pos (by decide)]
  refine wpAny_bind (sliceApplied_gen hs pl pu ?_)
  have hno : ¬ ((((sIx items.size 0 lo : Nat) : Int) == 0 && (1 : Int) == 1 && (sIx items.size items.size hi - sIx items.size 0 lo) == items.size) = true) := by
    intro q
    rw [Bool.and_eq_true, Bool.and_eq_true] at q
    have q1 : ((sIx items.size 0 lo : Nat) : Int) = 0 := eq_of_beq q.1.1
    have q2 : sIx items.size items.size hi - sIx items.size 0 lo = items.size := eq_of_beq q.2
    exact hw ⟨by omega, by omega⟩
  show wpAny _ _ (if (((sIx items.size 0 lo : Nat) : Int) == 0 && (1 : Int) == 1 && (sIx items.size items.size hi - sIx items.size 0 lo) == items.size) = true then _ else _) _ _ s
  rw [if_neg hno, pick_gen]
  first
    | exact wpAny_bind (m := Builtin.Tuple.tupleExact _) (wpAny_newObj_type (wpAny_pure ⟨_, rfl, wpAny_pure h⟩) htake)
    | exact wpAny_bind (m := Builtin.Tuple.tupleExact _) (wpAny_newObj_type (wpAny_bind (wpAny_pure (wpAny_pure ⟨_, rfl, wpAny_pure h⟩))) htake)
    | exact wpAny_bind (wpAny_bind (m := Builtin.Tuple.tupleExact _) (wpAny_newObj_type (wpAny_pure (wpAny_pure ⟨_, rfl, wpAny_pure h⟩)) htake))
    | exact wpAny_bind (wpAny_bind (m := Builtin.Tuple.tupleExact _) (wpAny_newObj_type (wpAny_pure ⟨_, rfl, wpAny_pure h⟩) htake))
end
end HT
namespace L2
open PySem PySem.Spec PyProof.Rows
abbrev TO := St → Hp → (Option Int → Hp → Prop) → Prop
def PO (X : Cx) (e : Option Expr) (t : TO) : Prop :=
  ∀ (pins : List (Addr × Obj)) (s : Shared) (σ : St) (H : Hp) (Q : Option Int → Hp → Prop), Inv X pins σ H s → t σ H Q →
    wpAny (model X.prog X.w) X.A (evalPart e X.env) (fun u s' => ∃ o H', Inv X pins σ H' s' ∧ IsPart u o ∧ Q o H') X.xe s
def tNoPart : TO := fun _ H Q => Q none H
def tPart (t : TE) : TO := fun σ H Q => t σ H fun x H1 => ∃ i, x = .int i ∧ Q (some i) H1
section
variable {X : Cx} {e : Expr} {te : TE} {lo hi : Option Expr} {tl th : TO} {pos p2 : Pos}
theorem po_none : PO X none tNoPart := by
  intro pins s σ H Q I h
  rw [evalPart_none]
  exact wpAny_pure ⟨none, H, I, .none, h⟩
theorem po_some (h : PE X e te) : PO X (some e) (tPart te) := by
  intro pins s σ H Q I hw
  rw [evalPart_some]
  refine thn (h pins s σ H _ I hw) fun u s1 ⟨x, H1, I1, r1, q1⟩ => ?_
  obtain ⟨i, rfl, q⟩ := q1
  obtain ⟨t, rfl⟩ := r1
  exact ⟨some i, H1, I1, .int i t, q⟩
def SlR (X : Cx) (r : V → Option Int → Option Int → Hp → VK → Prop) : Prop :=
  ∀ (pins : List (Addr × Obj)) (s : Shared) (σ : St) (H : Hp) (x : V) (v vl vu : Value) (lo hi : Option Int) (sl : Addr) (Q : VK), Inv X pins σ H s → RelV x v → s.heap.IsSliceOf sl vl vu .none → IsPart vl lo → IsPart vu hi → r x lo hi H Q →
    ∃ T id, typeLookup (.type T) "__getitem__" = pure (some (.builtin id)) ∧ s.TypeIs v T ∧ wpAny (model X.prog X.w) X.A (getItem v (.ref sl)) (EP X pins σ Q) X.xe s
def tSl (r : V → Option Int → Option Int → Hp → VK → Prop) (te : TE) (tl th : TO) : TE := fun σ H Q => te σ H fun x H1 => tl σ H1 fun l H2 => th σ H2 fun u H3 => r x l u H3 Q
theorem pe_slice {r : V → Option Int → Option Int → Hp → VK → Prop} (hr : SlR X r) (he : PE X e te) (hl : PO X lo tl) (hu : PO X hi th) : PE X (.Subscript e (.Slice lo hi none p2) pos) (tSl r te tl th) := by
  intro pins s σ H Q I h
  refine Subscript_ (thn (he pins s σ H _ I h) fun v s1 ⟨x, H1, I1, r1, q1⟩ => ?_)
  refine wpAny_Slice (thn (hl pins s1 σ H1 _ I1 q1) fun vl s2 ⟨l, H2, I2, pl, q2⟩ => thn (hu pins s2 σ H2 _ I2 q2) fun vu s3 ⟨u, H3, I3, pu, q3⟩ => ?_)
  rw [evalPart_none]
  refine wpAny_pure ?_
  have I4 : Inv X pins σ H3 { s3 with heap := s3.heap.push { cls := .type "slice", data := .fields #[vl, vu, .none] } } := I3.kept (t' := s3.toks) fun b ob q => Heap.get?_push_of_some _ q
  obtain ⟨T, id, hT, ht, hg⟩ := hr pins { s3 with heap := s3.heap.push { cls := .type "slice", data := .fields #[vl, vu, .none] } } σ H3 x v vl vu l u s3.heap.objs.size Q I4 r1 (Heap.IsSliceOf.new ..) pl pu q3
  show wpAny (model X.prog X.w) X.A (subscriptTail e (.Slice lo hi none p2) v (.ref s3.heap.objs.size)) (EP X pins σ Q) X.xe { s3 with heap := s3.heap.push { cls := .type "slice", data := .fields #[vl, vu, .none] } }
  exact tail_any (ops := [.ref s3.heap.objs.size, v]) ht hT hg (by with_unfolding_all rfl)
def cutV (xs : List V) (lo hi : Option Int) : List V := (xs.drop (HT.sIx xs.length 0 lo)).take (HT.sIx xs.length xs.length hi - HT.sIx xs.length 0 lo)
theorem cutV_length (xs : List V) (lo hi : Option Int) : (cutV xs lo hi).length ≤ xs.length := by
  unfold cutV
  rw [List.length_take, List.length_drop]
  omega
def rSlT (K : PySem.W.Frag) : V → Option Int → Option Int → Hp → VK → Prop := fun x lo hi H Q => ∃ a xs, x = .ref a ∧ SqT K H a xs ∧
  ¬ (HT.sIx xs.length 0 lo = 0 ∧ HT.sIx xs.length xs.length hi = xs.length) ∧ ∀ p, H p = none → Q (.ref p) (upd H p (.tup (cutV xs lo hi)))
theorem sl_tup : SlR X (rSlT X.K) := by
  intro pins s σ H x v vl vu lo hi sl Q I rx hs pl pu h
  obtain ⟨a, xs, rfl, hx, hw, q⟩ := h
  cases rx
  obtain ⟨its, r, ht, hz⟩ := I.tuple hx
  have hlen : its.toArray.size = xs.length := by rw [List.size_toArray]; exact r.length.symm
  refine ⟨"tuple", _, PyProof.Rows.slot_tuple_getitem.lookup, ht.typeIs, ?_⟩
  refine HT.getItem_tuple_cut ht hs pl pu (by rw [hlen]; exact hw) ?_ (by rw [hlen]; exact hz)
  rw [hlen]
  refine ⟨.ref s.heap.objs.size, _, I.laid (t' := s.toks) (o := .tup (cutV xs lo hi)) (fun b ob q => Heap.get?_push_of_some _ q) (Nat.le_refl _) ?_, rfl, q _ (I.hok.fresh (Nat.le_refl _))⟩
  exact ⟨Nat.le_trans (cutV_length xs lo hi) hz, _, (r.drop (HT.sIx xs.length 0 lo)).take (HT.sIx xs.length xs.length hi - HT.sIx xs.length 0 lo), TupO.new _ _⟩
def rCatT (K : PySem.W.Frag) : R2 := fun x y H Q => ∃ a b xs ys, x = .ref a ∧ y = .ref b ∧ SqT K H a xs ∧ SqT K H b ys ∧ xs ≠ [] ∧ xs.length + ys.length ≤ sizeLine ∧
  (ys = [] → Q (.ref a) H) ∧ (ys ≠ [] → ∀ p, H p = none → Q (.ref p) (upd H p (.tup (xs ++ ys))))
theorem Vals.nil_iff {xs : List V} {us : List Value} (r : Vals xs us) : us = [] ↔ xs = [] := by
  cases r with
  | nil => simp
  | cons _ _ => simp
theorem op_catT : OpR X (binaryOp .Add) (rCatT X.K) := by
  intro pins s σ H x y v u Q I rx ry h
  obtain ⟨a, b, xs, ys, rfl, rfl, ha, hb, hx, hz, q1, q2⟩ := h
  cases rx
  cases ry
  obtain ⟨its, r1, p1, _⟩ := I.tuple ha
  obtain ⟨its2, r2, p2, _⟩ := I.tuple hb
  refine HT.cat_tup p1 p2 (fun z => hx (r1.nil_iff.mp z)) (fun z => ⟨.ref a, H, I, rfl, q1 (r2.nil_iff.mp z)⟩) (fun z => ?_) (by rw [← r1.length, ← r2.length]; exact hz)
  refine ⟨.ref s.heap.objs.size, _, I.laid (t' := s.toks) (o := .tup (xs ++ ys)) (fun b ob q => Heap.get?_push_of_some _ q) (Nat.le_refl _) ?_, rfl, q2 (fun w => z (r2.nil_iff.mpr w)) _ (I.hok.fresh (Nat.le_refl _))⟩
  exact ⟨by rw [List.length_append]; exact hz, _, r1.append r2, TupO.new _ _⟩
end
end L2
namespace L2
open PySem PySem.Spec PyProof.Rows
def ixN (n : Nat) (i : Int) : Option Nat := if 0 ≤ i then (if i < n then some i.toNat else none) else if -(n : Int) ≤ i then some (i + n).toNat else none
def atI {α : Type} (xs : List α) (i : Int) : Option α := (ixN xs.length i).bind fun j => xs[j]?
theorem ixN_seq {n : Nat} {i : Int} {j : Nat} (h : ixN n i = some j) : seqIndex? i n = some j ∧ j < n ∧ -(n : Int) ≤ i ∧ i < n := by
  unfold ixN at h
  by_cases h0 : 0 ≤ i
  · rw [if_pos h0] at h
    by_cases h1 : i < n
    · rw [if_pos h1] at h
      have e : i.toNat = j := Option.some.inj h
      exact ⟨by rw [seqIndex_of h0 h1, e], by omega, by omega, h1⟩
    · rw [if_neg h1] at h; cases h
  · rw [if_neg h0] at h
    by_cases h1 : -(n : Int) ≤ i
    · rw [if_pos h1] at h
      have e : (i + n).toNat = j := Option.some.inj h
      exact ⟨by rw [seqIndex_neg (by omega) h1, e], by omega, h1, by omega⟩
    · rw [if_neg h1] at h; cases h
theorem atI_get {α : Type} {xs : List α} {i : Int} {v : α} (h : atI xs i = some v) : ∃ j, seqIndex? i xs.length = some j ∧ xs[j]? = some v ∧ j < xs.length ∧ -(xs.length : Int) ≤ i ∧ i < xs.length := by
  unfold atI at h
  cases e : ixN xs.length i with
  | none => rw [e] at h; cases h
  | some j =>
    rw [e] at h
    obtain ⟨h1, h2, h3, h4⟩ := ixN_seq e
    exact ⟨j, h1, h, h2, h3, h4⟩
theorem atI_nat {α : Type} {xs : List α} {j : Nat} {v : α} (h : xs[j]? = some v) : atI xs (j : Int) = some v := by
  have hj : j < xs.length := (List.getElem?_eq_some_iff.mp h).1
  have e : ixN xs.length (j : Int) = some j := by
    unfold ixN
    rw [if_pos (by omega), if_pos (by omega)]; simp
  unfold atI; rw [e]; exact h
def PlainIx (b : Expr) : Prop := ∀ o i, subscripted b false o i = operate [o, i] (getItem o i)
def IxR (X : Cx) (r : R2) : Prop :=
  ∀ (value slice : Expr) (pins : List (Addr × Obj)) (s : Shared) (σ : St) (H : Hp) (x y : V) (v u : Value) (Q : VK), Inv X pins σ H s → RelV x v → RelV y u → r x y H Q →
    subscripted slice false v u = operate [v, u] (getItem v u) → wpAny (model X.prog X.w) X.A (subscriptTail value slice v u) (EP X pins σ Q) X.xe s
def MtR (X : Cx) (id : String) (r : V → List V → Hp → VK → Prop) : Prop :=
  ∀ (pins : List (Addr × Obj)) (s : Shared) (σ : St) (H : Hp) (x : V) (xs : List V) (v : Value) (us : List Value) (Q : VK), Inv X pins σ H s → RelV x v → Vals xs us → r x xs H Q →
    wpAny (model X.prog X.w) X.A (call (.builtin id) (v :: us)) (EP X pins σ Q) X.xe s
section
variable {X : Cx} {a b : Expr} {ta tb : TE} {pos : Pos}
theorem pe_ix {r : R2} (hr : IxR X r) (ha : PE X a ta) (hb : PE X b tb) (hs : PlainIx b) : PE X (.Subscript a b pos) (tOp r ta tb) := by
  intro pins s σ H Q I h
  exact Subscript_ (binT ha hb I h fun v u s2 x y H2 I2 rx ry q => hr a b pins s2 σ H2 x y v u Q I2 rx ry q (hs _ _))
def rIxL (K : PySem.W.Frag) : R2 := fun x y H Q => ∃ p xs i v, x = .ref p ∧ y = .int i ∧ SqL K H p xs ∧ atI xs i = some v ∧ Q v H
def rIxT (K : PySem.W.Frag) : R2 := fun x y H Q => ∃ p xs i v, x = .ref p ∧ y = .int i ∧ SqT K H p xs ∧ atI xs i = some v ∧ Q v H
theorem ix_list : IxR X (rIxL X.K) := by
  intro value slice pins s σ H x y v u Q I rx ry h hs
  obtain ⟨p, xs, i, z, rfl, rfl, hq, he, q⟩ := h
  cases rx
  obtain ⟨t, rfl⟩ := ry
  obtain ⟨its, r, pl, hz⟩ := I.list hq
  obtain ⟨j, h1, h2, h3, h4, h5⟩ := atI_get he
  obtain ⟨w, ew, rw'⟩ := r.get h2
  have hl := r.length
  have hn := line63
  have fin : EP X pins σ Q w s := ⟨z, H, I, rw', q⟩
  by_cases h0 : 0 ≤ i
  · have hj : i.toNat = j := by
      rw [seqIndex_of h0 h5] at h1
      exact Option.some.inj h1
    exact item_listR pl.isList h0 (by omega) (by rw [hj]; simpa using ew) fin hs
  · have hj : (i + (its.toArray.size : Int)).toNat = j := by
      rw [seqIndex_neg (by omega) h4] at h1
      rw [List.size_toArray, ← hl]
      exact Option.some.inj h1
    exact subscriptTail_builtinR (x := w) pl.isList.typeIs slot_list_getitem.lookup
      (wpAny_getItem_list_neg (Q := fun r s' => r = w ∧ EP X pins σ Q r s') pl.isList (by omega) (by rw [List.size_toArray] <;> omega) (by omega) (by rw [hj]; simpa using ew) ⟨rfl, fin⟩) hs
theorem ix_tup : IxR X (rIxT X.K) := by
  intro value slice pins s σ H x y v u Q I rx ry h hs
  obtain ⟨p, xs, i, z, rfl, rfl, hq, he, q⟩ := h
  cases rx
  obtain ⟨t, rfl⟩ := ry
  obtain ⟨its, r, pl, hz⟩ := I.tuple hq
  obtain ⟨j, h1, h2, h3, h4, h5⟩ := atI_get he
  obtain ⟨w, ew, rw'⟩ := r.get h2
  have hl := r.length
  have hn := line63
  have fin : EP X pins σ Q w s := ⟨z, H, I, rw', q⟩
  exact subscriptTail_builtinR (x := w) pl.typeIs slot_tuple_getitem.lookup
    (getItem_tuple (j := j) (Q := fun r s' => r = w ∧ EP X pins σ Q r s') pl (by omega) (by omega) (by rw [List.size_toArray, ← hl]; exact h1) (by simpa using ew) ⟨rfl, fin⟩) hs
theorem mapSeq_set (its : List Value) (n j : Nat) (u : Value) : Obj.mapSeq (·.setIfInBounds j u) { cls := .type "list", data := .seq its.toArray n } = { cls := .type "list", data := .seq (its.set j u).toArray n } := by
  simp [Obj.mapSeq]
theorem Inv.lst {pins : List (Addr × Obj)} {σ : St} {H : Hp} {s : Shared} {p : Addr} {xs : List V} (I : Inv X pins σ H s) (h : H p = some (.lst xs)) :
    ∃ (its : List Value) (n : Nat), Vals xs its ∧ s.heap.get? p = some { cls := .type "list", data := .seq its.toArray n } ∧ xs.length ≤ sizeLine := by
  obtain ⟨z, its, n, r, e⟩ := I.hok p _ h
  exact ⟨its, n, r, e, z⟩
theorem Inv.lstUpd {pins : List (Addr × Obj)} {σ : St} {H : Hp} {s : Shared} {p : Addr} {xs ys : List V} {its its' : List Value} {n n' : Nat} {f : Obj → Obj} (I : Inv X pins σ H s) (h : H p = some (.lst xs))
    (ho : s.heap.get? p = some { cls := .type "list", data := .seq its.toArray n }) (hf : f { cls := .type "list", data := .seq its.toArray n } = { cls := .type "list", data := .seq its'.toArray n' }) (r : Vals ys its') (hz : ys.length ≤ sizeLine) (t : Nat) :
    Inv X pins σ (upd H p (.lst ys)) { s with heap := s.heap.update p f, toks := t } := by
  have e : (s.heap.update p f).get? p = some { cls := .type "list", data := .seq its'.toArray n' } := by
    rw [Heap.get?_update_self f ho (by rw [hf] <;> rfl), hf]
  refine I.write (x := p) (e := p) (by rw [h]; trivial) (.inl rfl) (fun b u hb q => (Heap.get?_update_other _ _ (Ne.symm hb)).trans q) ⟨_, e⟩ ?_
  exact ⟨hz, its', n', r, e⟩
def rSetL : V → V → V → Hp → (Hp → Prop) → Prop := fun o i v H Q => ∃ p xs k j, o = .ref p ∧ i = .int k ∧ H p = some (.lst xs) ∧ ixN xs.length k = some j ∧ Q (upd H p (.lst (xs.set j v)))
theorem set_list : PSet X rSetL := by
  intro pins s σ H o i v ov iv u Q I ro ri rv h
  obtain ⟨p, xs, k, j, rfl, rfl, hp, hj, q⟩ := h
  cases ro
  obtain ⟨t, rfl⟩ := ri
  obtain ⟨its, n, r, ho, hz⟩ := I.lst hp
  obtain ⟨h1, h2, h3, h4⟩ := ixN_seq hj
  have hl := r.length
  have hn := line63
  have I' : Inv X pins σ (upd H p (.lst (xs.set j v))) { s with heap := s.heap.update p (Obj.mapSeq (·.setIfInBounds j u)) } :=
    I.lstUpd hp ho (mapSeq_set its n j u) (r.set rv j) (by rw [List.length_set]; exact hz) s.toks
  by_cases h0 : 0 ≤ k
  · have hk : k.toNat = j := by
      rw [seqIndex_of h0 h4] at h1
      exact Option.some.inj h1
    exact PySem.W.ki_setAt ho h0 (by omega) (by rw [List.size_toArray, ← hl]; exact h4) (by rw [hk]; exact ⟨_, I', q⟩)
  · have hk : (k + (its.toArray.size : Int)).toNat = j := by
      rw [seqIndex_neg (by omega) h3] at h1
      rw [List.size_toArray, ← hl]
      exact Option.some.inj h1
    exact PySem.W.ki_setBack ho (by omega) (by rw [List.size_toArray, ← hl]; exact h3) (by omega) (by rw [hk]; exact ⟨_, I', q⟩)
theorem slice_bounds (lo hi : Option Int) (n : Nat) : (sliceBounds lo hi none n).1 = ((HT.sIx n 0 lo : Nat) : Int) ∧ (sliceBounds lo hi none n).2.1 = ((HT.sIx n n hi : Nat) : Int) ∧ (sliceBounds lo hi none n).2.2 = 1 := by
  refine ⟨?_, ?_, rfl⟩
  · cases lo with
    | none => simp [sliceBounds, HT.sIx]
    | some i =>
      simp only [sliceBounds, HT.sIx, Option.getD_none, show (1 : Int) > 0 by decide, if_true]
      by_cases h : i < 0
      · simp only [h, if_true] <;> omega
      · simp only [h, if_false] <;> omega
  · cases hi with
    | none => simp [sliceBounds, HT.sIx]
    | some i =>
      simp only [sliceBounds, HT.sIx, Option.getD_none, show (1 : Int) > 0 by decide, if_true]
      by_cases h : i < 0
      · simp only [h, if_true] <;> omega
      · simp only [h, if_false] <;> omega
theorem slicePick_cut (its : List Value) (lo hi : Option Int) : slicePick its.toArray lo hi none = ((its.drop (HT.sIx its.length 0 lo)).take (HT.sIx its.length its.length hi - HT.sIx its.length 0 lo)).toArray := by
  obtain ⟨h1, h2, h3⟩ := slice_bounds lo hi its.toArray.size
  unfold slicePick
  rw [h1, h2, h3]
  simp only [sliceRange_one, pick_run, List.size_toArray] <;> rfl
def rSlL (K : PySem.W.Frag) : V → Option Int → Option Int → Hp → VK → Prop := fun x lo hi H Q => ∃ a xs, x = .ref a ∧ SqL K H a xs ∧ ∀ p, H p = none → Q (.ref p) (upd H p (.lst (cutV xs lo hi)))
theorem sl_list : SlR X (rSlL X.K) := by
  intro pins s σ H x v vl vu lo hi sl Q I rx hs pl pu h
  obtain ⟨a, xs, rfl, hx, q⟩ := h
  cases rx
  obtain ⟨its, r, ht, hz⟩ := I.list hx
  have hlen := r.length
  refine ⟨"list", _, slot_list_getitem.lookup, ht.isList.typeIs, ?_⟩
  refine wpAny_getItem_list_slice ht.isList hs pl pu .none (by simp) ?_ (by rw [List.size_toArray] <;> omega)
  rw [slicePick_cut, ← hlen]
  refine ⟨.ref s.heap.objs.size, _, I.laid (t' := s.toks) (o := .lst (cutV xs lo hi)) (fun b ob q => Heap.get?_push_of_some _ q) (Nat.le_refl _) ?_, rfl, q _ (I.hok.fresh (Nat.le_refl _))⟩
  exact ⟨Nat.le_trans (cutV_length xs lo hi) hz, _, 0, (r.drop (HT.sIx xs.length 0 lo)).take (HT.sIx xs.length xs.length hi - HT.sIx xs.length 0 lo), Heap.get?_push_size _ rfl⟩
def flatV : V → Bool
  | .non => true
  | .bl _ => true
  | .int _ => true
  | .str _ => true
  | _ => false
def eqV : V → V → Bool
  | .non, .non => true
  | .bl a, .bl b => a == b
  | .bl a, .int b => (if a then 1 else 0) == b
  | .int a, .bl b => a == (if b then 1 else 0)
  | .int a, .int b => a == b
  | .str a, .str b => a == b
  | _, _ => false
theorem eqAt_V {A : Around} {s : Shared} {y x : V} {u v : Value} (ry : RelV y u) (rx : RelV x v) (fy : flatV y = true) (fx : flatV x = true) : SeqAt.EqAt A s u v (eqV y x) := by
  cases y with
  | non =>
    cases ry
    cases x with
    | non => cases rx; exact SeqAt.EqAt.same _
    | bl b => cases rx; exact SeqAt.EqAt.none_bool b
    | int b => obtain ⟨t, rfl⟩ := rx; exact SeqAt.EqAt.none_int b t
    | str b => obtain ⟨t, rfl⟩ := rx; exact SeqAt.EqAt.none_str b t
    | _ => exact absurd (show false = true from fx) Bool.false_ne_true
  | bl a =>
    cases ry
    cases x with
    | non => cases rx; exact SeqAt.EqAt.bool_none a
    | bl b => cases rx; exact SeqAt.EqAt.bool_bool a b
    | int b => obtain ⟨t, rfl⟩ := rx; exact SeqAt.EqAt.bool_int a b t
    | str b => obtain ⟨t, rfl⟩ := rx; exact SeqAt.EqAt.bool_str a b t
    | _ => exact absurd (show false = true from fx) Bool.false_ne_true
  | int a =>
    obtain ⟨t', rfl⟩ := ry
    cases x with
    | non => cases rx; exact SeqAt.EqAt.int_none a t'
    | bl b => cases rx; exact SeqAt.EqAt.int_bool a t' b
    | int b => obtain ⟨t, rfl⟩ := rx; exact SeqAt.EqAt.int_int a t' b t
    | str b => obtain ⟨t, rfl⟩ := rx; exact SeqAt.EqAt.int_str a t' b t
    | _ => exact absurd (show false = true from fx) Bool.false_ne_true
  | str a =>
    obtain ⟨t', rfl⟩ := ry
    cases x with
    | non => cases rx; exact SeqAt.EqAt.str_none a t'
    | bl b => cases rx; exact SeqAt.EqAt.str_bool a t' b
    | int b => obtain ⟨t, rfl⟩ := rx; exact SeqAt.EqAt.str_int a t' b t
    | str b => obtain ⟨t, rfl⟩ := rx; exact SeqAt.EqAt.str_str a t' b t
    | _ => exact absurd (show false = true from fx) Bool.false_ne_true
  | _ => exact absurd (show false = true from fy) Bool.false_ne_true
def eqU (x : V) (u : Value) : Bool := match u with
  | .none => eqV .non x
  | .bool b => eqV (.bl b) x
  | .int i _ => eqV (.int i) x
  | .str z _ => eqV (.str z) x
  | _ => false
theorem eqU_of {x y : V} {u : Value} (r : RelV y u) (f : flatV y = true) : eqU x u = eqV y x := by
  cases y with
  | non => cases r; rfl
  | bl b => cases r; rfl
  | int i => obtain ⟨t, rfl⟩ := r; rfl
  | str z => obtain ⟨t, rfl⟩ := r; rfl
  | _ => exact absurd (show false = true from f) Bool.false_ne_true
theorem any_eqU {x : V} : ∀ {xs : List V} {us : List Value}, Vals xs us → xs.all flatV = true → us.any (eqU x) = xs.any fun y => eqV y x
  | _, _, .nil, _ => rfl
  | y :: xs, u :: us, .cons r t, f => by
    rw [List.all_cons, Bool.and_eq_true] at f
    rw [List.any_cons, List.any_cons, eqU_of r f.1, any_eqU t f.2]
theorem mem_eqAt {A : Around} {s : Shared} {x : V} {v : Value} (rx : RelV x v) (fx : flatV x = true) : ∀ {xs : List V} {us : List Value}, Vals xs us → xs.all flatV = true → ∀ u ∈ us, SeqAt.EqAt A s u v (eqU x u)
  | _, _, .nil, _ => fun u hu => by cases hu
  | y :: xs, u :: us, .cons r t, f => fun u' hu => by
    rw [List.all_cons, Bool.and_eq_true] at f
    rcases List.mem_cons.mp hu with rfl | hu
    · rw [eqU_of r f.1]; exact eqAt_V r rx f.1 fx
    · exact mem_eqAt rx fx t f.2 u' hu
def inV (x : V) (xs : List V) : Bool := xs.any fun y => eqV y x
def rIn (K : PySem.W.Frag) (neg : Bool) : R2 := fun x y H Q => ∃ p xs, y = .ref p ∧ (SqL K H p xs ∨ SqT K H p xs) ∧ flatV x = true ∧ xs.all flatV = true ∧ Q (.bl (if neg then !inV x xs else inV x xs)) H
theorem op_in_seq : OpR X (compareOp .In) (rIn X.K false) := by
  intro pins s σ H x y v u Q I rx ry h
  obtain ⟨p, xs, rfl, hq, fx, fs, q⟩ := h
  cases ry
  rcases hq with hq | hq
  · obtain ⟨its, r, pl, hz⟩ := I.list hq
    refine SeqAt.in_listAt (eqU x) pl.isList (fun w hw => mem_eqAt rx fx r fs w (by simpa using hw)) ⟨.bl _, H, I, rfl, ?_⟩
    rw [show its.toArray.any (eqU x) = its.any (eqU x) by simp, any_eqU r fs]
    exact q
  · obtain ⟨its, r, pl, hz⟩ := I.tuple hq
    refine SeqAt.in_tupleAt (eqU x) pl (fun w hw => mem_eqAt rx fx r fs w (by simpa using hw)) ⟨.bl _, H, I, rfl, ?_⟩
    rw [show its.toArray.any (eqU x) = its.any (eqU x) by simp, any_eqU r fs]
    exact q
theorem op_notIn_seq : OpR X (compareOp .NotIn) (rIn X.K true) := by
  intro pins s σ H x y v u Q I rx ry h
  obtain ⟨p, xs, rfl, hq, fx, fs, q⟩ := h
  cases ry
  rcases hq with hq | hq
  · obtain ⟨its, r, pl, hz⟩ := I.list hq
    refine SeqAt.notIn_listAt (eqU x) pl.isList (fun w hw => mem_eqAt rx fx r fs w (by simpa using hw)) ⟨.bl _, H, I, rfl, ?_⟩
    rw [show its.toArray.any (eqU x) = its.any (eqU x) by simp, any_eqU r fs]
    exact q
  · obtain ⟨its, r, pl, hz⟩ := I.tuple hq
    refine SeqAt.notIn_tupleAt (eqU x) pl (fun w hw => mem_eqAt rx fx r fs w (by simpa using hw)) ⟨.bl _, H, I, rfl, ?_⟩
    rw [show its.toArray.any (eqU x) = its.any (eqU x) by simp, any_eqU r fs]
    exact q
theorem call_len_seq : CallR X (.builtin "len") (fun xs H Q => ∃ p ys, xs = [.ref p] ∧ (SqL X.K H p ys ∨ SqT X.K H p ys) ∧ Q (.int ys.length) H) := by
  intro pins s σ H xs us Q I r h
  obtain ⟨p, ys, rfl, hq, q⟩ := h
  obtain ⟨u, rfl, rx⟩ := vals1 r
  cases rx
  have hn := line63
  rcases hq with hq | hq
  · obtain ⟨its, r', pl, hz⟩ := I.list hq
    have hlen := r'.length
    exact Calls.call_len_list pl.isList (by simp only [List.size_toArray] <;> omega) ⟨.int ys.length, H, I.tok _, ⟨s.toks + 1, by rw [List.size_toArray, hlen]⟩, q⟩
  · obtain ⟨its, r', pl, hz⟩ := I.tuple hq
    have hlen := r'.length
    exact len_tuple pl (by simp only [List.size_toArray] <;> omega) ⟨.int ys.length, H, I.tok _, ⟨s.toks + 1, by rw [List.size_toArray, hlen]⟩, q⟩
theorem call_list_of : CallR X (.type "list") (fun xs H Q => ∃ p ys, xs = [.ref p] ∧ (SqL X.K H p ys ∨ SqT X.K H p ys) ∧ ∀ l, H l = none → Q (.ref l) (upd H l (.lst ys))) := by
  intro pins s σ H xs us Q I r h
  obtain ⟨p, ys, rfl, hq, q⟩ := h
  obtain ⟨u, rfl, rx⟩ := vals1 r
  cases rx
  have fin : ∀ (its : List Value), Vals ys its → ys.length ≤ sizeLine → ∀ (h' : Heap) (c' : Nat), (∀ b o', s.heap.get? b = some o' → h'.get? b = some o') →
      h'.get? s.heap.objs.size = some { cls := .type "list", dict := none, data := .seq its.toArray c', slots := #[] } → EP X pins σ Q (.ref s.heap.objs.size) { s with heap := h' } := fun its r' hz h' c' kp e =>
    ⟨.ref s.heap.objs.size, _, I.laid (t' := s.toks) kp (Nat.le_refl _) (show ObjOk X.prog X.w _ h' _ (.lst ys) from ⟨hz, its, c', r', e⟩), rfl, q _ (I.hok.fresh (Nat.le_refl _))⟩
  rcases hq with hq | hq
  · obtain ⟨its, r', pl, hz⟩ := I.list hq
    have hlen := r'.length
    obtain ⟨o, ho, hc, n, hd⟩ := pl.isList
    exact call_list_seq p (.inl rfl) ho hc hd (fun h' c' kp e => fin its r' hz h' c' kp e) (by simp only [List.size_toArray] <;> omega)
  · obtain ⟨its, r', pl, hz⟩ := I.tuple hq
    have hlen := r'.length
    obtain ⟨o, ho, hc, n, hd⟩ := pl
    exact call_list_seq p (.inr rfl) ho hc hd (fun h' c' kp e => fin its r' hz h' c' kp e) (by simp only [List.size_toArray] <;> omega)
theorem call_tuple_of : CallR X (.type "tuple") (fun xs H Q => ∃ p ys, xs = [.ref p] ∧ ((SqL X.K H p ys ∧ ∀ l, H l = none → Q (.ref l) (upd H l (.tup ys))) ∨ (SqT X.K H p ys ∧ Q (.ref p) H))) := by
  intro pins s σ H xs us Q I r h
  obtain ⟨p, ys, rfl, h⟩ := h
  obtain ⟨u, rfl, rx⟩ := vals1 r
  cases rx
  rcases h with ⟨hq, q⟩ | ⟨hq, q⟩
  · obtain ⟨its, r', pl, hz⟩ := I.list hq
    have hlen := r'.length
    refine call_tuple_list pl.isList (fun h' kp => ?_) (by simp only [List.size_toArray] <;> omega)
    have I1 : Inv X pins σ H { s with heap := h' } := I.kept (t' := s.toks) kp
    have I2 : Inv X pins σ (upd H h'.objs.size (.tup ys)) { s with heap := h'.push { cls := .type "tuple", data := .seq its.toArray } } :=
      I1.laid (t' := s.toks) (fun b o e => Heap.get?_push_of_some _ e) (Nat.le_refl _) (show ObjOk X.prog X.w _ _ _ (.tup ys) from ⟨hz, its, r', TupO.new _ _⟩)
    exact ⟨.ref h'.objs.size, _, I2, rfl, q _ (I1.hok.fresh (Nat.le_refl _))⟩
  · obtain ⟨its, r', pl, hz⟩ := I.tuple hq
    exact call_tuple_same pl ⟨.ref p, H, I, rfl, q⟩
def tyV (K : PySem.W.Frag) (T : String) (x : V) (H : Hp) : Prop := match x with
  | .str _ => T = "str"
  | .int _ => T = "int"
  | .ref p => (T = "list" ∧ ∃ xs, SqL K H p xs) ∨ (T = "tuple" ∧ ((∃ o, K.lookup p = some o ∧ o.cls = .type "tuple" ∧ o.dict = none) ∨ ∃ xs, H p = some (.tup xs))) ∨
      (T = "dict" ∧ ((∃ kvs, H p = some (.dK kvs)) ∨ ∃ kvs, H p = some (.dT kvs))) ∨ (T = "set" ∧ ∃ S n, H p = some (.set S n))
  | _ => False
theorem tyV_is {pins : List (Addr × Obj)} {σ : St} {H : Hp} {s : Shared} {T : String} {x : V} {v : Value} (I : Inv X pins σ H s) (r : RelV x v) (ty : tyV X.K T x H) :
    s.TypeIs v T ∧ ∀ a, v = .ref a → ∃ ob, s.heap.get? a = some ob ∧ ob.dict = none := by
  cases x with
  | str z =>
    obtain ⟨t, rfl⟩ := r
    cases (show T = "str" from ty)
    exact ⟨typeIs_str s z t, fun _ e => nomatch e⟩
  | int i =>
    obtain ⟨t, rfl⟩ := r
    cases (show T = "int" from ty)
    exact ⟨typeIs_int s i t, fun _ e => nomatch e⟩
  | ref p =>
    cases r
    rcases ty with ⟨rfl, xs, hq⟩ | ⟨rfl, ⟨o, hk, hc, hd⟩ | ⟨xs, hq⟩⟩ | ⟨rfl, hk⟩ | ⟨rfl, S, n, hk⟩
    · obtain ⟨its, _, pl, _⟩ := I.list hq
      refine ⟨pl.isList.typeIs, fun a e => ?_⟩
      cases e
      obtain ⟨o, n, e, c, hd, _⟩ := pl
      exact ⟨o, e, hd⟩
    · refine ⟨⟨o, I.kIn p o hk, hc⟩, fun a e => ?_⟩
      cases e
      exact ⟨o, I.kIn _ o hk, hd⟩
    · obtain ⟨_, its, _, o, e1, c1, d1, _⟩ := (show ObjOk X.prog X.w H s.heap p (.tup xs) from I.hok p _ hq)
      refine ⟨⟨o, e1, c1⟩, fun a e => ?_⟩
      cases e
      exact ⟨o, e1, d1⟩
    · have z : ∃ o, s.heap.get? p = some o ∧ o.ExactDict := by
        rcases hk with ⟨kvs, hk⟩ | ⟨kvs, hk⟩
        · obtain ⟨_, _, _, _, o, _, _, e, ex, _⟩ := I.hok p _ hk
          exact ⟨o, e, ex⟩
        · obtain ⟨_, _, _, _, o, _, _, e, ex, _⟩ := I.hok p _ hk
          exact ⟨o, e, ex⟩
      obtain ⟨o, e, ex⟩ := z
      refine ⟨⟨o, e, ex.1⟩, fun a e2 => ?_⟩
      cases e2
      exact ⟨o, e, ex.2.1⟩
    · obtain ⟨o, _, _, _, e, ex, _⟩ := I.hok p _ hk
      refine ⟨⟨o, e, ex.1⟩, fun a e2 => ?_⟩
      cases e2
      exact ⟨o, e, ex.2.1⟩
  | _ => exact False.elim ty
def tBM (K : PySem.W.Frag) (T : String) (r : V → List V → Hp → VK → Prop) (to : TE) (t : TA) : TE := fun σ H Q => to σ H fun x H1 => tyV K T x H1 ∧ t σ H1 fun xs H2 => r x xs H2 Q
variable {o e : Expr} {es : List Expr} {to : TE} {t : TA} {name : Str} {apos cpos : Pos} {T id : String} {r : V → List V → Hp → VK → Prop}
theorem pe_bm (pa : PlainAttrs T) (slot : Slot T name id) (hty : typeOf (.builtin id) = pure (.type "method_descriptor")) (hm : MtR X id r) (ho : PE X o to) (ha : PA X (e :: es) t)
    (hbase : attributeBase o name X.env (eval o X.env) = eval o X.env := by rfl)
    (hfew : ((backTo cpos (starEach (e :: es) X.env)).all (fun x => !x.1) && (backToKw cpos (keywordEach [] X.env)).all (fun x => x.1.isSome)
      && decide ((e :: es).length + ([] : List Keyword).length + (if ([] : List Keyword).isEmpty then 0 else 1) < 30)) = true := by rfl)
    (hline : (apos.endLine == cpos.line) = true := by rfl) (hs : starEach (e :: es) X.env = (false, eval e X.env) :: starEach es X.env := by rfl) (hplain : (backTo cpos (starEach es X.env)).any (·.1) = false := by rfl) :
    PE X (.Call (.Attribute o name apos) (e :: es) [] cpos) (tBM X.K T r to t) := by
  intro pins s σ H Q I h
  refine wpAny_Call_method_late hbase hfew hline rfl (thn (ho pins s σ H _ I h) fun v s1 ⟨x, H1, I1, r1, ty, q1⟩ => ?_)
  obtain ⟨h1, h2⟩ := tyV_is I1 r1 ty
  refine ⟨T, id, pa, slot, hty, h1, h2, ?_⟩
  have hA := ha cpos pins s1 σ H1 _ I1 q1
  rw [hs] at hA ⊢
  refine Calls.callWith_builtin (by show (false || (backTo cpos (starEach es X.env)).any (·.1)) = false; rw [hplain] <;> rfl) (Calls.evalArgs_plain ?_)
  exact thn hA fun us s2 ⟨vs, H2, I2, r2, q2⟩ => hm pins s2 σ H2 x vs v us Q I2 r1 r2 q2
end
end L2
namespace L2
open PySem PySem.Spec PyProof.Rows
def MtM (X : Cx) (id : String) (r : V → List V → Hp → VK → Prop) : Prop :=
  ∀ (pins : List (Addr × Obj)) (s : Shared) (σ : St) (H : Hp) (x : V) (xs : List V) (v : Value) (us : List Value) (Q : VK), Inv X pins σ H s → RelV x v → Vals xs us → r x xs H Q →
    wpAny (model X.prog X.w) X.A (call (.builtin id) (v :: us)) (EP X pins σ Q) X.xe s
theorem Vals.one : ∀ {x : V} {us : List Value}, Vals [x] us → ∃ u, us = [u] ∧ RelV x u
  | _, _, .cons r .nil => ⟨_, rfl, r⟩
theorem Vals.two : ∀ {x y : V} {us : List Value}, Vals [x, y] us → ∃ u v, us = [u, v] ∧ RelV x u ∧ RelV y v
  | _, _, _, .cons r (.cons q .nil) => ⟨_, _, rfl, r, q⟩
theorem Vals.zero : ∀ {us : List Value}, Vals [] us → us = []
  | _, .nil => rfl
theorem Vals.eraseIdx : ∀ {xs : List V} {us : List Value} (i : Nat), Vals xs us → Vals (xs.eraseIdx i) (us.eraseIdx i)
  | _, _, _, .nil => .nil
  | _, _, 0, .cons _ t => t
  | _, _, i + 1, .cons r t => .cons r (Vals.eraseIdx i t)
theorem Vals.rep {xs : List V} {us : List Value} (h : Vals xs us) : ∀ k : Nat, Vals (List.replicate k xs).flatten (List.replicate k us).flatten
  | 0 => .nil
  | k + 1 => by
    rw [List.replicate_succ, List.replicate_succ, List.flatten_cons, List.flatten_cons]
    exact Vals.append h (Vals.rep h k)
theorem len_erase {α : Type} : ∀ (l : List α) (i : Nat), (l.eraseIdx i).length ≤ l.length
  | [], _ => Nat.le_refl _
  | _ :: _, 0 => Nat.le_succ _
  | _ :: r, i + 1 => Nat.succ_le_succ (len_erase r i)
theorem foldl_rep (its : List Value) : ∀ (k : Nat) (acc : List Value),
    List.foldl (fun x1 x2 => x1 ++ x2) acc.toArray (List.replicate k its.toArray) = (acc ++ (List.replicate k its).flatten).toArray
  | 0, acc => by simp
  | k + 1, acc => by
    have e : acc.toArray ++ its.toArray = (acc ++ its).toArray := by simp
    have e2 : (acc ++ its) ++ (List.replicate k its).flatten = acc ++ (List.replicate (k + 1) its).flatten := by
      rw [List.replicate_succ, List.flatten_cons, List.append_assoc]
    rw [← e2, ← foldl_rep its k (acc ++ its), ← e, List.replicate_succ, List.foldl_cons]
section
variable {X : Cx} {pins : List (Addr × Obj)} {σ : St} {H : Hp} {s : Shared} {l b : Addr} {xs ys zs : List V}
theorem Inv.lset {its its' : List Value} {n : Nat} {f : Array Value → Array Value} {t' : Nat} (I : Inv X pins σ H s) (hH : H l = some (.lst xs))
    (e : s.heap.get? l = some { cls := .type "list", data := .seq its.toArray n }) (hf : f its.toArray = its'.toArray) (hv : Vals ys its') (hz : ys.length ≤ sizeLine) :
    Inv X pins σ (upd H l (.lst ys)) { s with heap := s.heap.update l (Obj.mapSeq f), toks := t' } := by
  have q := PySem.IsL.update e f
  rw [hf] at q
  refine I.write (x := l) (e := l) (by rw [hH]; exact trivial) (.inl rfl) (fun b' u hb hu => (Heap.get?_update_other s.heap (Obj.mapSeq f) (Ne.symm hb)).trans hu) ⟨_, q⟩ ?_
  exact ⟨hz, its', _, hv, q⟩
theorem Inv.lnew {its : List Value} {t' : Nat} (I : Inv X pins σ H s) (hv : Vals ys its) (hz : ys.length ≤ sizeLine) :
    Inv X pins σ (upd H s.heap.objs.size (.lst ys)) { s with heap := s.heap.push { cls := .type "list", data := .seq its.toArray }, toks := t' } :=
  I.laid (fun _ _ q => Heap.get?_push_of_some _ q) (Nat.le_refl _) ⟨hz, its, 0, hv, Heap.get?_push_size _ rfl⟩
theorem Inv.fresh (I : Inv X pins σ H s) : H s.heap.objs.size = none := I.hok.fresh (Nat.le_refl _)
theorem Inv.lstM (I : Inv X pins σ H s) (hH : H l = some (.lst xs)) : xs.length ≤ sizeLine ∧ ∃ (its : List Value) (n : Nat), Vals xs its ∧ xs.length = its.length ∧ s.heap.get? l = some { cls := .type "list", data := .seq its.toArray n } := by
  obtain ⟨z, its, n, r, e⟩ := I.hok l _ hH
  exact ⟨z, its, n, r, r.length, e⟩
theorem notLongL {n : Nat} (h : n ≤ sizeLine) : Builtin.List.listTooLong n = false := by
  unfold Builtin.List.listTooLong
  exact decide_eq_false (by omega)
end
section
variable {X : Cx}
def rExtend : V → List V → Hp → VK → Prop := fun x vs H Q => ∃ l b xs zs, x = .ref l ∧ vs = [.ref b] ∧ H l = some (.lst xs) ∧ H b = some (.lst zs) ∧ xs.length + zs.length ≤ sizeLine ∧ Q .non (upd H l (.lst (xs ++ zs)))
theorem mt_extend : MtM X "list.extend" rExtend := by
  intro pins s σ H x vs v us Q I rx rv h
  obtain ⟨l, b, xs, zs, rfl, rfl, hH, hB, hz, q⟩ := h
  cases rx
  obtain ⟨u, rfl, ru⟩ := rv.one
  cases ru
  obtain ⟨z, its, n, r, hl, e⟩ := I.lstM hH
  obtain ⟨z2, its2, n2, r2, hl2, e2⟩ := I.lstM hB
  have hsz : its.toArray.size + its2.toArray.size ≤ sizeLine := by rw [List.size_toArray, List.size_toArray]; omega
  have hlong : ¬ (!its.toArray.isEmpty && Builtin.List.listTooLong (its.toArray.size + its2.toArray.size)) = true := by
    rw [notLongL hsz, Bool.and_false]
    exact Bool.false_ne_true
  refine call_meets F.slot_list_extend ⟨_, e, rfl⟩ F.entry_list_extend (F.args_list_extend_2 _ _)
    (AutoSeq1.list_extend_list_list_0 l its.toArray n b its2.toArray n2 hlong (by rw [List.size_toArray]; omega) (by omega)) ⟨e, e2, ?_⟩
  refine ⟨.non, _, I.lset (its' := its ++ its2) hH e (by simp) (r.append r2) ?_, rfl, q⟩
  rw [List.length_append]
  omega
def rPopAt : V → List V → Hp → VK → Prop := fun x vs H Q => ∃ l xs i k y, x = .ref l ∧ vs = [.int i] ∧ H l = some (.lst xs) ∧ -(2 ^ 63) ≤ i ∧ i < 2 ^ 63 ∧ seqIndex? i xs.length = some k ∧ xs[k]? = some y ∧ Q y (upd H l (.lst (xs.eraseIdx k)))
theorem mt_popAt : MtM X "list.pop" rPopAt := by
  intro pins s σ H x vs v us Q I rx rv h
  obtain ⟨l, xs, i, k, y, rfl, rfl, hH, h1, h2, hk, hy, q⟩ := h
  cases rx
  obtain ⟨u, rfl, ru⟩ := rv.one
  obtain ⟨t, rfl⟩ := ru
  obtain ⟨z, its, n, r, hl, e⟩ := I.lstM hH
  obtain ⟨w, hw, rw'⟩ := r.get hy
  refine call_meets F.slot_list_pop ⟨_, e, rfl⟩ F.entry_list_pop (F.args_list_pop_2 _ _)
    (MeetsSeq.list_pop_at l its.toArray n i t k w (fitsIndex_both h1 h2) (by rw [List.size_toArray, ← hl]; exact hk) (by rw [← Array.getElem?_toList]; exact hw) (by rw [List.size_toArray]; omega)) ⟨e, ?_⟩
  refine ⟨y, _, I.lset (its' := its.eraseIdx k) hH e ?_ (r.eraseIdx k) ?_, rw', q⟩
  · show its.toArray.eraseIdxIfInBounds k = (its.eraseIdx k).toArray
    rw [List.eraseIdxIfInBounds_toArray]
  · have := len_erase xs k
    omega
def rCat : R2 := fun x y H Q => ∃ l b xs zs, x = .ref l ∧ y = .ref b ∧ H l = some (.lst xs) ∧ H b = some (.lst zs) ∧ xs.length + zs.length ≤ sizeLine ∧ ∀ p, H p = none → Q (.ref p) (upd H p (.lst (xs ++ zs)))
theorem op_cat : OpR X (binaryOp .Add) rCat := by
  intro pins s σ H x y v u Q I rx ry h
  obtain ⟨l, b, xs, zs, rfl, rfl, hH, hB, hz, q⟩ := h
  cases rx
  cases ry
  obtain ⟨z, its, n, r, hl, e⟩ := I.lstM hH
  obtain ⟨z2, its2, n2, r2, hl2, e2⟩ := I.lstM hB
  refine PySem.P.add_list e e2 ?_ (by rw [List.size_toArray, List.size_toArray]; omega)
  have ea : its.toArray ++ its2.toArray = (its ++ its2).toArray := by simp
  rw [ea]
  exact ⟨.ref _, _, I.lnew (t' := s.toks) (r.append r2) (by rw [List.length_append]; omega), rfl, q _ I.fresh⟩
def rRep : R2 := fun x y H Q => ∃ l k xs, x = .ref l ∧ y = .int k ∧ H l = some (.lst xs) ∧ -(2 ^ 63) ≤ k ∧ k < 2 ^ 63 ∧ xs.length * k.toNat ≤ sizeLine ∧
  ∀ p, H p = none → Q (.ref p) (upd H p (.lst (List.replicate k.toNat xs).flatten))
theorem len_rep {α : Type} (xs : List α) (k : Nat) : (List.replicate k xs).flatten.length = k * xs.length := by
  induction k with
  | zero => simp
  | succ k ih => rw [List.replicate_succ, List.flatten_cons, List.length_append, ih, Nat.succ_mul, Nat.add_comm]
theorem op_rep : OpR X (binaryOp .Mult) rRep := by
  intro pins s σ H x y v u Q I rx ry h
  obtain ⟨l, k, xs, rfl, rfl, hH, h1, h2, hz, q⟩ := h
  cases rx
  obtain ⟨t, rfl⟩ := ry
  obtain ⟨z, its, n, r, hl, e⟩ := I.lstM hH
  have hlen : its.toArray.size * k.toNat ≤ sizeLine := by rw [List.size_toArray, ← hl]; exact hz
  have hcap : ¬ its.toArray.size * k.toNat > (2 ^ 63 - 1) / 8 := by
    have : (sizeLine : Nat) ≤ (2 ^ 63 - 1) / 8 := by decide
    omega
  have hfit : ¬ (!Builtin.List.listFitsIndex k) = true := by
    rw [fitsIndex_both h1 h2]
    exact Bool.false_ne_true
  have hlong : ¬ Builtin.List.listTooLong (its.toArray.size * k.toNat) = true := by
    rw [notLongL hlen]
    exact Bool.false_ne_true
  have hnew : List.foldl (fun x1 x2 => x1 ++ x2) #[] (List.replicate (if its.toArray.isEmpty = true then 0 else k.toNat) its.toArray) = (List.replicate k.toNat its).flatten.toArray := by
    have f0 : ∀ m : Nat, List.foldl (fun x1 x2 => x1 ++ x2) #[] (List.replicate m its.toArray) = (List.replicate m its).flatten.toArray := fun m => by
      have := foldl_rep its m []
      rw [List.nil_append] at this
      exact this
    rw [f0]
    cases its with
    | nil => simp
    | cons a r' => rw [if_neg (by simp)]
  refine wpAny_binaryOp_repeat_ref (T := "list") (U := "int") (by decide) ⟨_, e, rfl⟩ (fun s' => typeIs_int s' k t) noFill_list_mul F.fills_int_mul F.slot_int_rmul repeat_list F.slot_int_index.lookup
    (call_meets F.slot_int_rmul (typeIs_int s k t) F.entry_int_rmul (F.args_int_rmul_2 _ _) (int___rmul___int_list k t l its.toArray n)
      ⟨e, rfl, ⟨_, e, rfl⟩, call_meets F.slot_list_mul ⟨_, e, rfl⟩ F.entry_list_mul (F.args_list_mul_2 _ _) (AutoListH.list___mul___list_int_3 l its.toArray n k t hfit hcap hlong) ⟨e, ?_⟩⟩)
  rw [hnew]
  exact ⟨.ref _, _, I.lnew (t' := s.toks) (r.rep k.toNat) (by rw [len_rep, Nat.mul_comm]; exact hz), rfl, q _ I.fresh⟩
end
end L2
namespace L2
open PySem PySem.Spec PyProof.Rows
theorem Vals.ints : ∀ {ns : List Int} {us : List Value}, Vals (ns.map V.int) us → IntsAre us ns
  | [], us, h => by
    rw [List.map_nil] at h
    cases h
    exact IntsAre.nil
  | n :: ns, us, h => by
    rw [List.map_cons] at h
    cases h with
    | cons r t =>
      obtain ⟨k, rfl⟩ := r
      exact IntsAre.cons n k (Vals.ints t)
theorem vals_of_ints : ∀ {us : List Value} {ns : List Int}, IntsAre us ns → Vals (ns.map V.int) us
  | _, _, .nil => by rw [List.map_nil]; exact Paired.nil
  | _, _, .cons n t h => by rw [List.map_cons]; exact Paired.cons (show RelV (V.int n) (Value.int n t) from ⟨t, rfl⟩) (vals_of_ints h)
theorem Vals.strs : ∀ {xs : List Str} {us : List Value}, Vals (xs.map V.str) us → StrsAre us xs
  | [], us, h => by
    rw [List.map_nil] at h
    cases h
    exact StrsAre.nil
  | x :: xs, us, h => by
    rw [List.map_cons] at h
    cases h with
    | cons r t =>
      obtain ⟨k, rfl⟩ := r
      exact StrsAre.cons x k (Vals.strs t)
theorem Vals.bls : ∀ {bs : List Bool} {us : List Value}, Vals (bs.map V.bl) us → us = bs.map Value.bool
  | [], us, h => by
    rw [List.map_nil] at h
    cases h
    rfl
  | b :: bs, us, h => by
    rw [List.map_cons] at h
    cases h with
    | cons r t =>
      cases r
      rw [Vals.bls t, List.map_cons]
theorem Vals.ref1 {a : Addr} {us : List Value} (r : Vals [V.ref a] us) : us = [Value.ref a] := by
  cases r with
  | cons r t =>
    cases t
    cases r
    rfl
section
variable {X : Cx}
def rSorted (K : PySem.W.Frag) : List V → Hp → VK → Prop := fun vs H Q => ∃ (a : Addr) (ns : List Int), vs = [V.ref a] ∧ SqL K H a (ns.map V.int) ∧ ns.length < 64 ∧
  ∀ (ns' : List Int) (p : Addr), ns'.Perm ns → ns'.Pairwise (· ≤ ·) → H p = none → Q (.ref p) (upd H p (.lst (ns'.map V.int)))
theorem small64 {n : Nat} (h : n < 64) : n ≤ sizeLine := by rw [sizeLine_eq]; omega
theorem cr_sorted : CallR X (.builtin "sorted") (rSorted X.K) := by
  intro pins s σ H vs us Q I r h
  obtain ⟨a, ns, rfl, hs, h64, q⟩ := h
  obtain ⟨its, rv, hl, _⟩ := I.list hs
  rw [Vals.ref1 r]
  have hi := rv.ints
  refine PyProof.Rows.sorted_ints hl.isList hi (by rw [hi.length]; exact h64) fun out ns' h1 h2 h3 => ?_
  obtain ⟨ep, he'⟩ := PyProof.Rows.sortedAll_at s.heap its out
  have hlen : (ns'.map V.int).length ≤ sizeLine := by rw [List.length_map, h2.length_eq]; exact small64 h64
  exact ⟨.ref _, upd H (s.heap.objs.size + 1) (.lst (ns'.map V.int)), I.laid (t' := s.toks) (fun _ _ => PyProof.Rows.sortedAll_old) (Nat.le_succ _) ⟨hlen, out.toList, ep, vals_of_ints h1, he'⟩, rfl, q ns' _ h2 h3 (I.hok.fresh (Nat.le_succ _))⟩
end
section
variable {X : Cx}
theorem flat_at {ys : List V} (f : ys.all flatV = true) {j : Nat} {z : V} (h : ys[j]? = some z) : flatV z = true := List.all_eq_true.mp f z (List.mem_of_getElem? h)
end
theorem iter_any {prog : Program} {w : World} {A : Around} {E : Value → Shared → Prop} {s : Shared} {l : Addr} {items : Array Value} {Q : Value → Shared → Prop} (hl : s.heap.IsList l items)
    (h : ∀ s₂ : Shared, s₂ = { s with heap := s.heap.push { cls := .type "list_iterator", data := .fields #[.ref l, .int 0 0] } } →
      (s₂.heap.IsListIter s.heap.objs.size l 0 ∧ s₂.heap.IsList l items) → l ≠ s.heap.objs.size → Q (.ref s.heap.objs.size) s₂) : wpAny (model prog w) A (pyIter (.ref l)) Q E s := by
  have hlt : l < s.heap.objs.size := by obtain ⟨_, e, _⟩ := hl; exact Heap.lt_size e
  exact wpAny_pyIter_list hl (h _ rfl ⟨⟨_, Heap.get?_push_size _ rfl, rfl, rfl⟩, hl.push _⟩ (Nat.ne_of_lt hlt))
theorem truth_bools {prog : Program} {w : World} {A : Around} {bs : List Bool} {its : List Value} (e : its = bs.map Value.bool) :
    TruthOf prog w A (fun i v => its.toArray[i]? = some v) (fun i => bs.getD i false) := fun i v s Q E hv hq => by
  have hv' : its[i]? = some v := by simpa using hv
  rw [e, List.getElem?_map] at hv'
  obtain ⟨b, hb, rfl⟩ := Option.map_eq_some_iff.mp hv'
  have hg : bs.getD i false = b := by rw [List.getD_eq_getElem?_getD, hb] <;> rfl
  have hq' : Q (bs.getD i false) s := hq
  rw [hg] at hq'
  exact wpAny_truthy_bool hq'
theorem all_range : ∀ bs : List Bool, (List.range bs.length).all (fun i => bs.getD i false) = bs.all id
  | [] => rfl
  | b :: bs => by
    rw [List.length_cons, List.range_succ_eq_map, List.all_cons, List.all_map, List.all_cons, ← all_range bs]
    all_goals rfl
section
variable {X : Cx}
def rAll (K : PySem.W.Frag) : List V → Hp → VK → Prop := fun vs H Q => ∃ (a : Addr) (bs : List Bool), vs = [V.ref a] ∧ SqL K H a (bs.map V.bl) ∧ Q (.bl (bs.all id)) H
theorem cr_all (hc : X.calm = true) : CallR X (.builtin "all") (rAll X.K) := by
  intro pins s σ H vs us Q I r h
  obtain ⟨a, bs, rfl, hs, q⟩ := h
  obtain ⟨its, rv, hl, _⟩ := I.list hs
  rw [Vals.ref1 r]
  have hb := rv.bls
  refine call_all_walk (iter_any hl.isList fun s₂ e2 st hne => ?_)
  subst e2
  refine ⟨_, _, _, _, _, _, _, rfl, Walks.list (A := X.A.in1) (I.ok.hd hc) _ a hne its.toArray, st, truth_bools hb, fun h' tk hk => ?_⟩
  refine ⟨.bl _, H, I.kept fun b o eo => hk b o (fun hmem => ?_) (Heap.get?_push_of_some _ eo), ?_, q⟩
  · rcases List.mem_cons.mp hmem with e1 | hmem
    · exact absurd (e1 ▸ Heap.lt_size eo) (Nat.lt_irrefl _)
    · cases hmem
  · show Value.bool _ = Value.bool _
    rw [← all_range, hb, List.size_toArray, List.length_map]
end
mutual
inductive Dp (K : PySem.W.Frag) (H : Hp) : V → PyData → Prop
  | non : Dp K H .non .none
  | bl (b : Bool) : Dp K H (.bl b) (.bool b)
  | int (i : Int) : Dp K H (.int i) (.int i)
  | str (x : Str) : Dp K H (.str x) (.str x)
  | lst {a : Addr} {xs : List V} {ds : List PyData} : SqL K H a xs → DpAll K H xs ds → Dp K H (.ref a) (.list ds)
  | tup {a : Addr} {xs : List V} {ds : List PyData} : SqT K H a xs → DpAll K H xs ds → Dp K H (.ref a) (.tuple ds)
inductive DpAll (K : PySem.W.Frag) (H : Hp) : List V → List PyData → Prop
  | nil : DpAll K H [] []
  | cons {v : V} {vs : List V} {d : PyData} {ds : List PyData} : Dp K H v d → DpAll K H vs ds → DpAll K H (v :: vs) (d :: ds)
end
section
variable {X : Cx} {pins : List (Addr × Obj)} {σ : St} {H : Hp} {s : Shared}
mutual
theorem Dp.reads (I : Inv X pins σ H s) : ∀ (d : PyData) (v : V) (u : Value), Dp X.K H v d → RelV v u → ∃ as, Reads s.heap u d as
  | .none, _, _, h, r => by
    cases h
    cases r
    exact ⟨_, Reads.none⟩
  | .bool b, _, _, h, r => by
    cases h
    cases r
    exact ⟨_, Reads.bool b⟩
  | .int i, _, _, h, r => by
    cases h
    obtain ⟨t, rfl⟩ := r
    exact ⟨_, Reads.int i t⟩
  | .str x, _, _, h, r => by
    cases h
    obtain ⟨t, rfl⟩ := r
    exact ⟨_, Reads.str x t⟩
  | .list ds, _, _, h, r => by
    cases h with
    | lst hs ha =>
      cases r
      obtain ⟨its, rv, ⟨o, n, ho, hc, _, hd⟩, _⟩ := I.list hs
      obtain ⟨as, hr⟩ := Dp.readsAll I ds _ its ha rv
      exact ⟨_, Reads.list ho hc hd hr⟩
  | .tuple ds, _, _, h, r => by
    cases h with
    | tup hs ha =>
      cases r
      obtain ⟨its, rv, ⟨o, ho, hc, n, hd⟩, _⟩ := I.tuple hs
      obtain ⟨as, hr⟩ := Dp.readsAll I ds _ its ha rv
      exact ⟨_, Reads.tuple ho hc hd hr⟩
  | .dict _, _, _, h, _ => by cases h
theorem Dp.readsAll (I : Inv X pins σ H s) : ∀ (ds : List PyData) (vs : List V) (us : List Value), DpAll X.K H vs ds → Vals vs us → ∃ as, ReadsAll s.heap us ds as
  | [], _, _, h, r => by
    cases h
    cases r
    exact ⟨_, ReadsAll.nil⟩
  | d :: ds, _, _, h, r => by
    cases h with
    | cons h1 h2 =>
      cases r with
      | cons r1 r2 =>
        obtain ⟨as, q1⟩ := Dp.reads I d _ _ h1 r1
        obtain ⟨bs, q2⟩ := Dp.readsAll I ds _ _ h2 r2
        exact ⟨_, ReadsAll.cons q1 q2⟩
end
end
section
variable {X : Cx}
def rEqD (K : PySem.W.Frag) : R2 := fun x y H Q => ∃ d e, Dp K H x d ∧ Dp K H y e ∧ SeqAt.shaped d = true ∧ SeqAt.shaped e = true ∧ Q (.bl (PyData.eqv d e)) H
def rNeD (K : PySem.W.Frag) : R2 := fun x y H Q => ∃ d e, Dp K H x d ∧ Dp K H y e ∧ SeqAt.shaped d = true ∧ SeqAt.shaped e = true ∧ Q (.bl (!PyData.eqv d e)) H
theorem op_eqD (hu : X.A.units + 64 < cLine) : OpR X (compareOp .Eq) (rEqD X.K) := by
  intro pins s σ H x y v u Q I rx ry h
  obtain ⟨d, e, hd, he, sd, se, q⟩ := h
  obtain ⟨as, r1⟩ := Dp.reads I d x v hd rx
  obtain ⟨bs, r2⟩ := Dp.reads I e y u he ry
  exact SeqAt.compareEq_shaped r1 r2 sd se hu ⟨.bl _, H, I, rfl, q⟩
theorem op_neD (hu : X.A.units + 64 < cLine) : OpR X (compareOp .NotEq) (rNeD X.K) := by
  intro pins s σ H x y v u Q I rx ry h
  obtain ⟨d, e, hd, he, sd, se, q⟩ := h
  obtain ⟨as, r1⟩ := Dp.reads I d x v hd rx
  obtain ⟨bs, r2⟩ := Dp.reads I e y u he ry
  exact SeqAt.compareNe_shaped r1 r2 sd se hu ⟨.bl _, H, I, rfl, q⟩
end
end L2
namespace L2
open PySem PySem.Spec PyProof.Rows
abbrev CellAt (h : Heap) (c : Addr) (v : Option Value) : Prop := h.IsCell c v
def relS (scope sc : Scope) : Scope :=
  { scope with names := scope.names.map fun (n, k) => if (k == .free && sc.kind == .function && sc.names.lookup n == some .cell) then (n, .cell) else (n, k) }
def cloFrom (cells : List (Str × Addr)) : List (Str × NameKind) → List (Str × Addr) → List (Str × Addr)
  | [], acc => acc
  | (n, k) :: r, acc => if k == .free then cloFrom cells r ((n, (cells.lookup n).getD 0) :: acc) else cloFrom cells r acc
theorem closure_loop (env : Env) (f : Str × NameKind → List (Str × Addr) → Sem (ForInStep (List (Str × Addr))))
    (hf : ∀ n k c, f (n, k) c = if k == .free then (do let a ← cellOf env n; pure (.yield ((n, a) :: c))) else pure (.yield c)) :
    ∀ (names : List (Str × NameKind)) (acc : List (Str × Addr)), (∀ y ∈ names, y.2 = .free → ∃ c, env.cells.lookup y.1 = some c) → forIn names acc f = pure (cloFrom env.cells names acc)
  | [], acc, _ => by rw [List.forIn_nil]; rfl
  | (n, k) :: r, acc, h => by
    rw [List.forIn_cons, hf]
    have ih := fun acc => closure_loop env f hf r acc fun y hy => h y (List.mem_cons_of_mem _ hy)
    unfold cloFrom
    by_cases hk : (k == NameKind.free) = true
    · rw [if_pos hk, if_pos hk]
      obtain ⟨c, hc⟩ := h (n, k) List.mem_cons_self (by simpa using hk)
      have e : cellOf env n = pure c := by unfold cellOf; rw [hc]
      rw [e]
      have e2 : (env.cells.lookup n).getD 0 = c := by rw [hc]; rfl
      rw [e2]
      exact ih _
    · rw [if_neg hk, if_neg hk]
      exact ih _
theorem closure_ok {scope : Scope} {env : Env} (h : ∀ y ∈ scope.names, y.2 = .free → ∃ c, env.cells.lookup y.1 = some c) : closureFor scope env = pure (cloFrom env.cells scope.names []) := by
  simp only [closureFor]
  rw [closure_loop env _ (fun n k c => rfl) scope.names [] h]
  rfl
theorem mem_lookup {α : Type} : ∀ {l : List (Str × α)} {n : Str} {c : α}, (n, c) ∈ l → ∃ c', l.lookup n = some c'
  | (k, v) :: r, n, c, h => by
    rw [List.lookup_cons]
    cases hb : n == k with
    | true => exact ⟨_, rfl⟩
    | false =>
      rcases List.mem_cons.mp h with e | h
      · cases e; simp at hb
      · exact mem_lookup h
theorem cloFrom_mem {cells : List (Str × Addr)} : ∀ {names : List (Str × NameKind)} {acc : List (Str × Addr)} {n : Str} {c : Addr}, (n, c) ∈ cloFrom cells names acc → (n, c) ∈ acc ∨ ((n, .free) ∈ names ∧ c = (cells.lookup n).getD 0)
  | [], _, _, _, h => .inl h
  | (m, k) :: r, acc, n, c, h => by
    unfold cloFrom at h
    split at h
    · rename_i hk
      have hk : k = .free := by simpa using hk
      rcases cloFrom_mem h with h | ⟨h1, h2⟩
      · rcases List.mem_cons.mp h with e | h
        · cases e; exact .inr ⟨hk ▸ List.mem_cons_self, rfl⟩
        · exact .inl h
      · exact .inr ⟨List.mem_cons_of_mem _ h1, h2⟩
    · rcases cloFrom_mem h with h | ⟨h1, h2⟩
      · exact .inl h
      · exact .inr ⟨List.mem_cons_of_mem _ h1, h2⟩
theorem cloFrom_acc {cells : List (Str × Addr)} : ∀ {names : List (Str × NameKind)} {acc : List (Str × Addr)} {p : Str × Addr}, p ∈ acc → p ∈ cloFrom cells names acc
  | [], _, _, h => h
  | (m, k) :: r, acc, p, h => by
    unfold cloFrom
    split
    · exact cloFrom_acc (List.mem_cons_of_mem _ h)
    · exact cloFrom_acc h
theorem cloFrom_has {cells : List (Str × Addr)} : ∀ {names : List (Str × NameKind)} {acc : List (Str × Addr)} {n : Str}, (n, .free) ∈ names → (n, (cells.lookup n).getD 0) ∈ cloFrom cells names acc
  | (m, k) :: r, acc, n, h => by
    unfold cloFrom
    rcases List.mem_cons.mp h with e | h
    · cases e
      exact cloFrom_acc List.mem_cons_self
    · split
      · exact cloFrom_has h
      · exact cloFrom_has h
theorem cells_mem : ∀ {names : List (Str × NameKind)} {h : Heap} {acc : List (Str × Addr)} {x : Str} {c : Addr}, (x, c) ∈ cellsFrom h.objs.size names acc →
    (x, c) ∈ acc ∨ ((x, .cell) ∈ names ∧ h.objs.size ≤ c ∧ CellAt (pushCells h names) c none)
  | [], _, _, _, _, h => .inl h
  | (n, k) :: r, h, acc, x, c, hm => by
    unfold cellsFrom at hm
    unfold pushCells
    split at hm
    · rename_i hk
      rw [if_pos hk]
      have hk : k = .cell := by simpa using hk
      rw [← Heap.size_push h { cls := .type "cell", data := .cell none }] at hm
      rcases cells_mem hm with hm | ⟨h1, h2, h3⟩
      · rcases List.mem_cons.mp hm with e | hm
        · cases e
          exact .inr ⟨hk ▸ List.mem_cons_self, Nat.le_refl _, _, pushCells_keeps r _ _ _ (Heap.get?_push_size _ rfl), rfl⟩
        · exact .inl hm
      · rw [Heap.size_push] at h2
        exact .inr ⟨List.mem_cons_of_mem _ h1, Nat.le_of_succ_le h2, h3⟩
    · rename_i hk
      rw [if_neg hk]
      rcases cells_mem hm with hm | ⟨h1, h2, h3⟩
      · exact .inl hm
      · exact .inr ⟨List.mem_cons_of_mem _ h1, h2, h3⟩
theorem cells_acc : ∀ {names : List (Str × NameKind)} {n : Nat} {acc : List (Str × Addr)} {p : Str × Addr}, p ∈ acc → p ∈ cellsFrom n names acc
  | [], _, _, _, h => h
  | (m, k) :: r, n, acc, p, h => by
    unfold cellsFrom
    split
    · exact cells_acc (List.mem_cons_of_mem _ h)
    · exact cells_acc h
theorem cells_has : ∀ {names : List (Str × NameKind)} {n : Nat} {acc : List (Str × Addr)} {x : Str}, (x, .cell) ∈ names → ∃ c, (x, c) ∈ cellsFrom n names acc
  | (m, k) :: r, n, acc, x, h => by
    unfold cellsFrom
    rcases List.mem_cons.mp h with e | h
    · cases e
      exact ⟨n, cells_acc List.mem_cons_self⟩
    · split
      · exact cells_has h
      · exact cells_has h
theorem cells_inj : ∀ {names : List (Str × NameKind)} {h : Heap} {acc : List (Str × Addr)} {x y : Str} {c : Addr}, (∀ p ∈ acc, p.2 < h.objs.size) → (∀ x y c, (x, c) ∈ acc → (y, c) ∈ acc → x = y) →
    (x, c) ∈ cellsFrom h.objs.size names acc → (y, c) ∈ cellsFrom h.objs.size names acc → x = y
  | [], _, _, _, _, _, _, hi, h1, h2 => hi _ _ _ h1 h2
  | (n, k) :: r, h, acc, x, y, c, hl, hi, h1, h2 => by
    unfold cellsFrom at h1 h2
    split at h1
    · rename_i hk
      rw [if_pos hk] at h2
      rw [← Heap.size_push h { cls := .type "cell", data := .cell none }] at h1 h2
      refine cells_inj (h := h.push _) (fun p hp => ?_) (fun x y c a b => ?_) h1 h2
      · rw [Heap.size_push]
        rcases List.mem_cons.mp hp with rfl | hp
        · exact Nat.lt_succ_self _
        · exact Nat.lt_succ_of_lt (hl p hp)
      · rcases List.mem_cons.mp a with e | a <;> rcases List.mem_cons.mp b with e' | b
        · cases e; cases e'; rfl
        · cases e; exact absurd (hl _ b) (Nat.lt_irrefl _)
        · cases e'; exact absurd (hl _ a) (Nat.lt_irrefl _)
        · exact hi _ _ _ a b
    · rename_i hk
      rw [if_neg hk] at h2
      exact cells_inj hl hi h1 h2
theorem newEnv_comp {M : Model} {A : Around} {E : Value → Shared → Prop} {s : Shared} {scope : Scope} {globals : Addr} {closure : List (Str × Addr)} {qual : Str} {func : Option Addr} {code : Value} {around : Env} {builtins : Addr} {Q : Env → Shared → Prop}
    (h : Q (newEnv scope s.heap.objs.size globals (cellsFrom (s.heap.objs.size + 1) scope.names closure) qual func code (some around) builtins)
      { s with heap := pushCells (s.heap.push { cls := .type "dict", data := .dict #[] }) scope.names }) :
    wpAny M A (newFunctionEnv scope globals closure [] qual func code (some around) builtins) Q E s := by
  simp only [newFunctionEnv, Option.isSome_some, if_true]
  refine wpAny_bind (wpAny_alloc ?_)
  refine wpAny_bind (wpAny_layCells _ (fun n k c => rfl) scope.names closure _ _ ?_)
  rw [show ({ s with heap := s.heap.push { cls := .type "dict", data := .dict #[] } } : Shared).heap.objs.size = s.heap.objs.size + 1 from Heap.size_push ..]
  rw [List.forIn_nil]
  exact wpAny_bind (wpAny_pure (wpAny_pure h))
theorem lookup_relS {sc : Scope} : ∀ {names : List (Str × NameKind)} {x : Str} {k : NameKind},
    (names.map fun (n, k) => if (k == NameKind.free && sc.kind == .function && sc.names.lookup n == some .cell) then (n, NameKind.cell) else (n, k)).lookup x = some k →
    ∃ k', names.lookup x = some k' ∧ (k = k' ∨ (k' = .free ∧ k = .cell))
  | [], _, _, h => by simp at h
  | (n, k₀) :: r, x, k, h => by
    have ih := @lookup_relS sc r x k
    have h' : List.lookup x ((if (k₀ == NameKind.free && sc.kind == .function && sc.names.lookup n == some .cell) = true then (n, NameKind.cell) else (n, k₀)) :: (r.map _)) = some k := h
    cases hx : x == n with
    | true =>
      simp only [List.lookup_cons, hx]
      by_cases hc : (k₀ == NameKind.free && sc.kind == .function && sc.names.lookup n == some .cell) = true
      · rw [if_pos hc] at h'
        simp only [List.lookup_cons, hx] at h'
        cases h'
        simp only [Bool.and_eq_true, beq_iff_eq] at hc
        exact ⟨k₀, rfl, .inr ⟨hc.1.1, rfl⟩⟩
      · rw [if_neg hc] at h'
        simp only [List.lookup_cons, hx] at h'
        cases h'
        exact ⟨_, rfl, .inl rfl⟩
    | false =>
      simp only [List.lookup_cons, hx]
      by_cases hc : (k₀ == NameKind.free && sc.kind == .function && sc.names.lookup n == some .cell) = true
      · rw [if_pos hc] at h'
        simp only [List.lookup_cons, hx] at h'
        exact ih h'
      · rw [if_neg hc] at h'
        simp only [List.lookup_cons, hx] at h'
        exact ih h'
structure BlkOk (N : List Str) (sc scope : Scope) (own : List (Str × Nat)) : Prop where
  kind : scope.kind = .function
  uniq : ∀ y ∈ scope.names, scope.names.lookup y.1 = some y.2
  ix : ∀ p ∈ own, N[p.2]? = some p.1
  free : ∀ y ∈ scope.names, y.2 = .free → sc.names.lookup y.1 = some .cell ∨ sc.names.lookup y.1 = some .free
  own : ∀ y ∈ scope.names, y.2 = .local ∨ y.2 = .cell → y.1 ∈ own.map (·.1) ∨ y.1 ∉ N
def wipe (σ : St) : List Nat → St
  | [] => σ
  | v :: vs => (wipe σ vs).set v none
theorem wipe_length (σ : St) : ∀ vs : List Nat, (wipe σ vs).length = σ.length
  | [] => rfl
  | v :: vs => by unfold wipe; rw [List.length_set, wipe_length σ vs]
theorem wipe_some {σ : St} {i : Nat} {x : V} : ∀ {vs : List Nat}, (wipe σ vs)[i]? = some (some x) → σ[i]? = some (some x) ∧ i ∉ vs
  | [], h => ⟨h, by simp⟩
  | v :: vs, h => by
    unfold wipe at h
    by_cases hi : v = i
    · subst hi
      by_cases hv : v < (wipe σ vs).length
      · rw [List.getElem?_set_self hv] at h; cases h
      · rw [List.getElem?_eq_none (by simpa using hv)] at h; cases h
    · rw [List.getElem?_set_ne hi] at h
      obtain ⟨h1, h2⟩ := wipe_some h
      exact ⟨h1, by simp only [List.mem_cons, not_or]; exact ⟨fun e => hi e.symm, h2⟩⟩
abbrev Cx.blk (X : Cx) (s : Shared) (H : Hp) (scope : Scope) (cenv : Env) (fp : List Addr) : Cx := { X with s_0 := s, H_0 := H, env := cenv, outer := X.stack, ex := fp, fn := fun x => scope.names.lookup x == some .cell, pn := [], xe := fun _ _ => False }
section
variable {X : Cx} {pins : List (Addr × Obj)} {σ : St} {H : Hp} {s : Shared}
theorem block_start {scope : Scope} {own : List (Str × Nat)} {fp : List Addr} (I : Inv X pins σ H s) (ok : BlkOk X.N X.env.scope scope own) (hN : X.N.Nodup) (hfp : ∀ b ∈ fp, FpOk X pins H b ∧ b < s.heap.objs.size) :
    Inv (X.blk s H scope (compEnvC scope (cellsFrom (s.heap.objs.size + 1) scope.names (cloFrom X.env.cells scope.names [])) s.heap.objs.size X.env) fp) [] (wipe σ (own.map (·.2))) H { s with heap := pushCells (s.heap.push { cls := .type "dict", data := .dict #[] }) scope.names } := by
  have hfree : ∀ y ∈ scope.names, y.2 = .free → ∃ c, X.env.cells.lookup y.1 = some c := fun y hy e => by
    rcases ok.free y hy e with k | k
    · exact I.ok.has _ (.inl k)
    · exact I.ok.has _ (.inr k)
  generalize hcenv : compEnvC scope (cellsFrom (s.heap.objs.size + 1) scope.names (cloFrom X.env.cells scope.names [])) s.heap.objs.size X.env = cenv
  have kp : ∀ b o, s.heap.get? b = some o → (pushCells (s.heap.push { cls := .type "dict", data := .dict #[] }) scope.names).get? b = some o := fun b o e => pushCells_keeps _ _ _ _ (Heap.get?_push_of_some _ e)
  have hL : cenv.locals = s.heap.objs.size := by rw [← hcenv]; rfl
  have hcl : cenv.cells = cellsFrom (s.heap.objs.size + 1) scope.names (cloFrom X.env.cells scope.names []) := by rw [← hcenv]; rfl
  have hsc : cenv.scope = relS scope X.env.scope := by rw [← hcenv]; rfl
  rw [← Heap.size_push s.heap { cls := .type "dict", data := .dict #[] }] at hcl
  have cm : ∀ {y c}, (y, c) ∈ cloFrom X.env.cells scope.names [] → X.env.cells.lookup y = some c ∧ c < s.heap.objs.size := fun {y c} hm => by
    rcases cloFrom_mem hm with hm | ⟨h1, rfl⟩
    · cases hm
    · obtain ⟨c, hc⟩ := hfree _ h1 rfl
      rw [hc]
      obtain ⟨w, z⟩ := I.cell _ _ hc
      exact ⟨rfl, z.lt⟩
  have mem : ∀ {y c}, cenv.cells.lookup y = some c → (X.env.cells.lookup y = some c ∧ c < s.heap.objs.size) ∨ (s.heap.objs.size + 1 ≤ c ∧ CellAt (pushCells (s.heap.push { cls := .type "dict", data := .dict #[] }) scope.names) c none) := fun {y c} e => by
    rw [hcl] at e
    rcases cells_mem (PySem.mem_of_lookup e) with hm | ⟨_, h2, h3⟩
    · exact .inl (cm hm)
    · rw [Heap.size_push] at h2; exact .inr ⟨h2, h3⟩
  have look : ∀ {y}, scope.names.lookup y = some .free → ∃ c, cenv.cells.lookup y = some c ∧ X.env.cells.lookup y = some c := fun {y} hl => by
    have hy : (y, NameKind.free) ∈ scope.names := PySem.mem_of_lookup hl
    obtain ⟨c', e'⟩ := mem_lookup (cells_acc (names := scope.names) (n := (s.heap.push { cls := .type "dict", data := .dict #[] }).objs.size) (cloFrom_has (cells := X.env.cells) (acc := []) hy))
    rw [← hcl] at e'
    refine ⟨c', e', ?_⟩
    rw [hcl] at e'
    rcases cells_mem (PySem.mem_of_lookup e') with hm | ⟨h1, _, _⟩
    · exact (cm hm).1
    · have := ok.uniq _ h1
      rw [hl] at this; cases this
  have okB : (X.blk s H scope cenv fp).Ok := by
    refine ⟨I.ok.mod, by show cenv.scope.kind = _; rw [hsc]; exact ok.kind, by show cenv.globals = _; rw [← hcenv]; exact I.ok.glob, by show cenv.builtins = _; rw [← hcenv]; exact I.ok.blt, by show s.heap.objs.size ≤ cenv.locals; rw [hL]; exact Nat.le_refl _,
      fun y z c e1 e2 => ?_, fun y hy => ?_, fun y c z e => ?_, I.ok.hd, I.ok.frames, .inl rfl, fun b hb => ⟨?_, fun y c e z => ?_⟩, I.bs, Nat.le_trans I.ok.bsz I.sz, fun b o e hb => ?_, fun b hb z => ?_, I.stack, I.stkFree⟩
    · have e1 : cenv.cells.lookup y = some c := e1
      have e2 : cenv.cells.lookup z = some c := e2
      rw [hcl] at e1 e2
      refine cells_inj (fun p hp => ?_) (fun y z c a b => I.ok.inj y z c (cm a).1 (cm b).1) (PySem.mem_of_lookup e1) (PySem.mem_of_lookup e2)
      rw [Heap.size_push]
      exact Nat.lt_succ_of_lt (cm (y := p.1) (c := p.2) hp).2
    · show ∃ c, cenv.cells.lookup y = some c
      have key : ∀ k, cenv.kindOf y = some k → (k = .cell ∨ k = .free) → ∃ c, cenv.cells.lookup y = some c := fun k hk hk' => by
        unfold Env.kindOf at hk
        rw [hsc] at hk
        obtain ⟨k', e, r⟩ := lookup_relS hk
        have : k' = .cell ∨ k' = .free := by
          rcases r with rfl | ⟨rfl, _⟩
          · exact hk'
          · exact .inr rfl
        rcases this with rfl | rfl
        · obtain ⟨c, hm⟩ := cells_has (n := (s.heap.push { cls := .type "dict", data := .dict #[] }).objs.size) (acc := cloFrom X.env.cells scope.names []) (PySem.mem_of_lookup e)
          obtain ⟨c', e'⟩ := mem_lookup hm
          exact ⟨c', by rw [hcl]; exact e'⟩
        · obtain ⟨c, h1, _⟩ := look e
          exact ⟨c, h1⟩
      rcases hy with hy | hy
      · exact key _ hy (.inl rfl)
      · exact key _ hy (.inr rfl)
    · have z : (scope.names.lookup y == some NameKind.cell) = true := z
      have z : scope.names.lookup y = some .cell := by simpa using z
      have e : cenv.cells.lookup y = some c := e
      rw [hcl] at e
      rcases cells_mem (PySem.mem_of_lookup e) with hm | ⟨_, h2, _⟩
      · rcases cloFrom_mem hm with hm | ⟨h1, _⟩
        · cases hm
        · have q := ok.uniq _ h1
          rw [z] at q; cases q
      · rw [Heap.size_push] at h2
        exact Nat.le_of_succ_le h2
    · show b ≠ cenv.locals
      rw [hL]; exact Nat.ne_of_lt (hfp b hb).2
    · have e : cenv.cells.lookup y = some c := e
      rcases mem e with ⟨h1, _⟩ | ⟨h1, _⟩
      · exact (hfp b hb).1.2.2.2.2.1 y c h1 z
      · have h2 : s.heap.objs.size + 1 ≤ b := by rw [← z]; exact h1
        exact absurd (Nat.lt_of_lt_of_le (hfp b hb).2 (Nat.le_of_succ_le h2)) (Nat.lt_irrefl _)
    · rcases (hfp b hb).1.2.2.2.1 with z | z
      · exact I.ok.noex b o e z
      · exact absurd (Nat.lt_of_lt_of_le (Heap.lt_size e) (Nat.le_trans I.ok.bsz z)) (Nat.lt_irrefl _)
    · rcases List.mem_cons.mp (I.stkSub b z) with z | z
      · exact (hfp b hb).1.2.1 z
      · exact (hfp b hb).1.2.2.1 z
  refine ⟨okB, rfl, I.bare, Un.kept kp, ⟨fun _ => none, ?_, fun i y av e1 e2 e3 => ?_⟩, fun y c e => ?_, ?_, fun y c e => ?_, fun p hp => ?_, I.hok.kept kp, by rw [wipe_length]; exact I.len⟩
  · show Heap.Ns _ cenv.locals _
    rw [hL]
    exact Heap.Ns.keeps (Heap.Ns.new ..) fun b o e => pushCells_keeps _ _ _ _ e
  · obtain ⟨e2, hne⟩ := wipe_some e2
    have hfr : scope.names.lookup y = some .free ∧ (cenv.kindOf y = some .cell ∨ cenv.kindOf y = some .free) := by
      have key : ∀ k, cenv.scope.names.lookup y = some k → k = .local ∨ k = .cell ∨ k = .free → scope.names.lookup y = some .free ∧ (cenv.kindOf y = some .cell ∨ cenv.kindOf y = some .free) := fun k hk hk' => by
        have hk0 := hk
        rw [hsc] at hk
        obtain ⟨k', e, r⟩ := lookup_relS hk
        have no : ¬ (k' = .local ∨ k' = .cell) := fun hh => by
          rcases ok.own _ (PySem.mem_of_lookup e) hh with e' | e'
          · obtain ⟨p, hp, hpy⟩ := List.mem_map.mp e'
            have e3 := ok.ix p hp
            have : p.1 = y := hpy
            rw [this] at e3
            exact hne (List.mem_map.mpr ⟨p, hp, nodup_ix hN e3 e1⟩)
          · exact e' (List.mem_of_getElem? e1)
        rcases r with rfl | ⟨rfl, rfl⟩
        · rcases hk' with rfl | rfl | rfl
          · exact absurd (.inl rfl) no
          · exact absurd (.inr rfl) no
          · exact ⟨e, .inr hk0⟩
        · exact ⟨e, .inl hk0⟩
      have e3 : Vis cenv.scope y := e3
      rcases e3 with e3 | e3 | e3
      · exact key _ e3 (.inl rfl)
      · exact key _ e3 (.inr (.inl rfl))
      · exact key _ e3 (.inr (.inr rfl))
    obtain ⟨m, hn, hl⟩ := I.loc
    have hvis : Vis X.env.scope y := (ok.free _ (PySem.mem_of_lookup hfr.1) rfl).elim (fun k => .inr (.inl k)) (fun k => .inr (.inr k))
    obtain ⟨w, r, q⟩ := hl i y av e1 e2 hvis
    refine ⟨w, r, .inr ⟨hfr.2, ?_⟩⟩
    obtain ⟨c, h1, h2⟩ := look hfr.1
    rcases q with ⟨k, _⟩ | ⟨_, c', e', z⟩
    · have k : X.env.scope.names.lookup y = some .local := k
      rcases ok.free _ (PySem.mem_of_lookup hfr.1) rfl with k' | k' <;> rw [show X.env.scope.names.lookup y = _ from k'] at k <;> cases k
    · rw [h2] at e'; cases e'
      exact ⟨c, h1, z.keeps kp⟩
  · have e : cenv.cells.lookup y = some c := e
    rcases mem e with ⟨h1, _⟩ | ⟨_, z⟩
    · obtain ⟨w, z⟩ := I.cell y c h1
      exact ⟨w, z.keeps kp⟩
    · exact ⟨_, z⟩
  · show H cenv.locals = none
    rw [hL]; exact I.hok.fresh (Nat.le_refl _)
  · have e : cenv.cells.lookup y = some c := e
    rcases mem e with ⟨h1, _⟩ | ⟨h1, _⟩
    · exact I.freeC y c h1
    · exact I.hok.fresh (Nat.le_of_succ_le h1)
  · exact absurd (show p ∈ ([] : List (Addr × Obj)) ++ [] from hp) (by simp)
theorem app_ok {E : Value → Shared → Prop} {D : Addr} {xs : List V} {y : V} {v : Value} {Q : Value → Shared → Prop} (I : Inv X pins σ H s) (hD : H D = some (.lst xs)) (hz : xs.length < sizeLine) (r : RelV y v)
    (h : ∀ s', Inv X pins σ (upd H D (.lst (xs ++ [y]))) s' → Q .none s') : wpAny (model X.prog X.w) X.A (call (.builtin "list.append") [.ref D, v]) Q E s := by
  obtain ⟨hz', its, n, ri, e⟩ := I.hok D _ hD
  have hl := ri.length
  refine append_at (hsz := by rw [List.size_toArray]; omega) e fun h' sb ho' => ?_
  refine h { s with heap := h' } (I.write (t' := s.toks) (by rw [hD]; trivial) (.inl rfl) (fun b u hb q => (sb.2 b hb).trans q) ⟨_, ho'⟩ ⟨by rw [List.length_append]; exact hz, its ++ [v], n + 1, ri.append (.cons r .nil), ?_⟩)
  rw [ho']
  simp
def PTs (X : Cx) (ifs : List Expr) (t : TT) : Prop :=
  ∀ (pins : List (Addr × Obj)) (s : Shared) (σ : St) (H : Hp) (Q : Bool → Hp → Prop), Inv X pins σ H s → t σ H Q →
    wpAny (model X.prog X.w) X.A (forIn ifs true fun c r => if r = true then do let ok ← isTrue c X.env (eval c X.env); pure (ForInStep.yield ok) else pure (ForInStep.yield r)) (TP X pins σ Q) X.xe s
def tYes : TT := fun _ H Q => Q true H
theorem pts_nil : PTs X [] tYes := fun _ _ _ H _ I h => wpAny_tests_nil ⟨H, I, h⟩
theorem pts_one {c : Expr} {t : TT} (h : PT X c t) : PTs X [c] t := fun pins s σ H Q I hw => wpAny_tests_one (h pins s σ H Q I hw)
end
theorem thnF {α : Type} {t : Sem α} {Q Q' : α → Shared → Prop} {M : Model} {A : Around} {E : Value → Shared → Prop} {s : Shared} (h : wpAny M A t Q (fun _ _ => False) s) (hQ : ∀ a s, Q a s → Q' a s) : wpAny M A t Q' E s := wpAny_mono h hQ fun _ _ z => False.elim z
theorem compLoop_any {prog : Program} {w : World} {A : Around} {R : Result → Shared → Prop} {s : Shared} {elt target iter : Expr} {ifs : List Expr} {scope : Scope} {pos : Pos} {it acc : Value} {env : Env} (I : Nat → Shared → Prop)
    (turn : ∀ n s, I n s → wpAny (model prog w) A (pyNext it) (fun r s₁ => match r with
      | none => R (.ok .next) s₁
      | some v => wpAny (model prog w) A (letOwnedTupleGo target it v) (fun _ s₁' => wpAny (model prog w) A (assign target env v) (fun _ s₂ =>
          wpAny (model prog w) A (forIn ifs true fun c r => if r = true then do let ok ← isTrue c env (eval c env); pure (ForInStep.yield ok) else pure (ForInStep.yield r)) (fun ok s₃ =>
            if ok = true then wpAny (model prog w) A (eval elt env) (fun x s₄ =>
              wpAny (model prog w) A (call (.builtin "list.append") [acc, x]) (fun _ s₅ => ∃ m, m < n ∧ I m s₅) (notedBy (model prog w) A env fun e s' => R (.error e) s') s₄) (notedBy (model prog w) A env fun e s' => R (.error e) s') s₃
            else ∃ m, m < n ∧ I m s₃) (notedBy (model prog w) A env fun e s' => R (.error e) s') s₂) (notedBy (model prog w) A env fun e s' => R (.error e) s') s₁') (notedBy (model prog w) A env fun e s' => R (.error e) s') s₁) (notedBy (model prog w) A env fun e s' => R (.error e) s') s)
    (n : Nat) (h : I n s) :
    codeAny (model prog w) A (.compLoop (.ListComp elt [⟨target, iter, ifs, 0⟩] scope pos) 0 it acc env) R s := by
  refine codeAny_loop rfl I (fun n s hI => ?_) n h
  show wpAny _ A ((compTurn (.ListComp elt [⟨target, iter, ifs, 0⟩] scope pos) 0 it acc env).onRaise (fun x => do noteFrame x env; theTreesLotGoes x)) _ _ s
  refine wpAny_noted ?_
  rw [compTurn_list]
  refine wpAny_bind (wpAny_standAt (wpAny_bind (wpAny_mono (turn n s hI) (fun r s₁ h₁ => ?_) fun _ _ h' => h')))
  cases r with
  | none => exact wpAny_pure h₁
  | some v =>
    refine wpAny_bind (wpAny_mono h₁ (fun _ s₁' h₁' => ?_) fun _ _ h' => h')
    refine wpAny_bind (wpAny_mono h₁' (fun _ s₂ h₂ => wpAny_bind (wpAny_mono h₂ (fun ok s₃ h₃ => ?_) fun _ _ h' => h')) fun _ _ h' => h')
    cases ok with
    | false => exact wpAny_pure ⟨rfl, h₃⟩
    | true =>
      exact wpAny_bind (wpAny_bind (wpAny_mono h₃ (fun x s₄ h₄ => wpAny_bind (wpAny_mono h₄ (fun _ s₅ h₅ => wpAny_pure (wpAny_pure ⟨rfl, h₅⟩)) fun _ _ h' => h')) fun _ _ h' => h'))
section
variable {X : Cx}
def tLc (wi : TI) (g : TG) (tt : TT) (te : TE) (vs : List Nat) : TE := fun σ H Q => wi σ H fun J H1 => ∀ D, H1 D = none → ∃ W : Nat → Nat → Hp → Prop, (∃ m, W 0 m (upd H1 D (.lst []))) ∧ ∀ i m H, W i m H →
  (J.stop i H ∧ Q (.ref D) H) ∨ (J.go i H ∧ ∃ Nx : Hp → Prop, (∀ H', Nx H' → ∃ m', m' < m ∧ W (i + 1) m' H') ∧ ∀ x H', J.yld i H x H' → g x (wipe σ vs) H' fun σ2 H2 => wipe σ2 vs = wipe σ vs ∧ tt σ2 H2 fun b H3 =>
    if b = true then te σ2 H3 fun y H4 => ∃ acc, H4 D = some (.lst acc) ∧ acc.length < sizeLine ∧ Nx (upd H4 D (.lst (acc ++ [y]))) else Nx H3)
theorem lc_core {pins : List (Addr × Obj)} {s : Shared} {σ : St} {H : Hp} {Q : VK} {elt tg iter : Expr} {ifs : List Expr} {scope : Scope} {own : List (Str × Nat)} {pos pos' : Pos} {wi : TI} {g : TG} {tt : TT} {te : TE} {use : Option (Value → Sem Unit)} {Qf : Value → Shared → Prop}
    (hc : X.calm = true) (hN : X.N.Nodup) (I : Inv X pins σ H s) (hi : PI X tg iter wi) (ok : BlkOk X.N X.env.scope scope own)
    (hg : ∀ (s : Shared) (H : Hp) (C : Addr) (cl : List (Str × Addr)) (fp : List Addr), PG (X.blk s H scope (compEnvC scope cl C X.env) fp) tg g) (ht : ∀ (s : Shared) (H : Hp) (C : Addr) (cl : List (Str × Addr)) (fp : List Addr), PTs (X.blk s H scope (compEnvC scope cl C X.env) fp) ifs tt)
    (he : ∀ (s : Shared) (H : Hp) (C : Addr) (cl : List (Str × Addr)) (fp : List Addr), PE (X.blk s H scope (compEnvC scope cl C X.env) fp) elt te) (hs : ∀ x, foldedSetIterable iter X.env x = pure x)
    (h : tLc wi g tt te (own.map (·.2)) σ H Q)
    (hRR : ∀ D C s' m H', Inv X pins σ H' s' → Q (.ref D) H' → s'.heap.Ns C m → FpOk X pins H' C → compPost (model X.prog X.w) X.A X.xe use Qf (.ref D) C (.ok .next) s') :
    wpAny (model X.prog X.w) X.A (comprehension (.ListComp elt [⟨tg, iter, ifs, 0⟩] scope pos) scope X.env pos' (newList []) false (eval iter X.env) use) Qf X.xe s := by
  have hfree : ∀ y ∈ scope.names, y.2 = .free → ∃ c, X.env.cells.lookup y.1 = some c := fun y hy e => by
    rcases ok.free y hy e with k | k
    · exact I.ok.has _ (.inl k)
    · exact I.ok.has _ (.inr k)
  refine wpAny_comprehension_free (use := use) rfl hs (closure_ok hfree) ok.kind (fun y hy e => by rw [ok.uniq y hy, e])
    (thn (hi pins s σ H _ I h) fun xv s1 hx => thn hx fun itv s2 h2 => ?_)
  obtain ⟨it, fp, tn, J, H2, e, I2, T, st2, f2, q⟩ := h2
  subst e
  refine wpAny_newObj_type (newEnv_comp ?_) (by show 0 ≤ sizeLine; decide)
  generalize hD : s2.heap.objs.size = D
  have hDn : H2 D = none := I2.hok.fresh (Nat.le_of_eq hD)
  obtain ⟨W, ⟨m0, w0⟩, turn⟩ := q D hDn
  -- the new list
  generalize hs3 : ({ s2 with heap := s2.heap.push { cls := .type "list", data := .seq ([] : List Value).toArray } } : Shared) = s3
  have I3 : Inv X pins σ (upd H2 D (.lst [])) s3 := by
    rw [← hs3]
    refine I2.laid (t' := s2.toks) (fun b o e => Heap.get?_push_of_some _ e) (Nat.le_of_eq hD) ⟨Nat.zero_le _, [], 0, .nil, ?_⟩
    rw [← hD]
    exact Heap.get?_push_size _ rfl
  have h3 : s3.heap = s2.heap.push { cls := .type "list", data := .seq ([] : List Value).toArray } := by rw [← hs3]
  have sz : ∀ b ∈ fp, b < s2.heap.objs.size := fun b hb => by
    obtain ⟨o, e, _⟩ := T.obj _ _ st2 b hb
    exact Heap.lt_size e
  have f3 : ∀ b ∈ fp, FpOk X pins (upd H2 D (.lst [])) b ∧ b < s3.heap.objs.size := fun b hb => by
    have hlt := sz b hb
    refine ⟨⟨?_, (f2 b hb).2⟩, by rw [h3, Heap.size_push]; exact Nat.lt_succ_of_lt hlt⟩
    rw [upd_ne (by rw [← hD]; exact Nat.ne_of_lt hlt)]
    exact (f2 b hb).1
  have st3 : tn 0 s3.heap := T.keep _ _ _ st2 fun b _ o e => by rw [h3]; exact Heap.get?_push_of_some _ e
  have I4 := block_start I3 ok hN f3
  have pg := hg s3 (upd H2 D (.lst [])) s3.heap.objs.size (cellsFrom (s3.heap.objs.size + 1) scope.names (cloFrom X.env.cells scope.names [])) fp
  have pt := ht s3 (upd H2 D (.lst [])) s3.heap.objs.size (cellsFrom (s3.heap.objs.size + 1) scope.names (cloFrom X.env.cells scope.names [])) fp
  have pe := he s3 (upd H2 D (.lst [])) s3.heap.objs.size (cellsFrom (s3.heap.objs.size + 1) scope.names (cloFrom X.env.cells scope.names [])) fp
  show codeAny _ _ (.compStart (.ListComp elt [⟨tg, iter, ifs, 0⟩] scope pos) 0 (.ref it) (.ref D) (compEnvC scope (cellsFrom (s3.heap.objs.size + 1) scope.names (cloFrom X.env.cells scope.names [])) s3.heap.objs.size X.env)) (compPost (model X.prog X.w) X.A X.xe use Qf (.ref D) s3.heap.objs.size) { s3 with heap := pushCells (s3.heap.push { cls := .type "dict", data := .dict #[] }) scope.names }
  have nfp : ∀ b ∈ fp, (upd H2 D (.lst [])) b = none := fun b hb => (f3 b hb).1.1
  generalize hce : compEnvC scope (cellsFrom (s3.heap.objs.size + 1) scope.names (cloFrom X.env.cells scope.names [])) s3.heap.objs.size X.env = ce at I4 pg pt pe ⊢
  have cL : ce.locals = s3.heap.objs.size := by subst hce; rfl
  generalize hH3 : upd H2 D (.lst []) = H3 at I3 I4 pg pt pe w0 nfp f3
  generalize hs4 : ({ s3 with heap := pushCells (s3.heap.push { cls := .type "dict", data := .dict #[] }) scope.names } : Shared) = s4 at I4 ⊢
  have st4 : tn 0 s4.heap := T.keep _ _ _ st3 fun b _ o e => by rw [← hs4]; exact pushCells_keeps _ _ _ _ (Heap.get?_push_of_some _ e)
  have stat : ∀ {σ' : St} {H' : Hp} {s' : Shared}, Inv (X.blk s3 H3 scope ce fp) [] σ' H' s' → (∀ b ∈ fp, H' b = none) → ∀ b ∈ fp, FpOk (X.blk s3 H3 scope ce fp) [] H' b := fun {σ' H' s'} I' hn b hb =>
    ⟨hn b hb, (I'.ok.exf b hb).1, I'.ok.exfs b hb, .inl hb, fun x c e => (I'.ok.exf b hb).2 x c e, fun p hp => absurd (show p ∈ ([] : List (Addr × Obj)) ++ [] from hp) (by simp)⟩
  have loop : codeAny (model X.prog X.w) X.A (.compLoop (.ListComp elt [⟨tg, iter, ifs, 0⟩] scope pos) 0 (.ref it) (.ref D) ce) (compPost (model X.prog X.w) X.A X.xe use Qf (.ref D) s3.heap.objs.size) s4 := by
    refine compLoop_any (fun n s' => ∃ i H', Inv (X.blk s3 H3 scope ce fp) [] (wipe σ (own.map (·.2))) H' s' ∧ tn i s'.heap ∧ (∀ b ∈ fp, H' b = none) ∧ W i n H') ?_ m0 ⟨0, H3, I4, st4, nfp, w0⟩
    rintro n s5 ⟨i, H5, I5, st5, n5, w5⟩
    rcases turn i n H5 w5 with ⟨stop, qq⟩ | ⟨go, Nx, hNx, step⟩
    · have td := T.done (X.blk s3 H3 scope ce fp) rfl rfl rfl hc i [] s5 _ H5 (fun _ _ => False) I5 (stat I5 n5) st5 stop
      refine thnF td fun r s6 ⟨hr, I6⟩ => ?_
      subst hr
      -- back in the def's context
      have I7 : Inv X pins σ H5 s6 := I3.call' (ch := fp) I6.os I6.base I6.hok I6.bare fun b hb => ⟨(f3 b hb).1.2.2.2.1, (f3 b hb).1.2.1, (f3 b hb).1.2.2.2.2.1, (f3 b hb).1.2.2.2.2.2⟩
      have nC : H5 s3.heap.objs.size = none := by
        have z : H5 ce.locals = none := I6.free
        rw [cL] at z
        exact z
      obtain ⟨m, hn, _⟩ := I6.loc
      have hn : s6.heap.Ns ce.locals m := hn
      rw [cL] at hn
      exact hRR D s3.heap.objs.size s6 m H5 I7 qq hn (I3.fpOk (Nat.le_refl _) nC)
    · have ti := T.item (X.blk s3 H3 scope ce fp) rfl rfl rfl hc i [] s5 _ H5 (fun _ _ => False) I5 (stat I5 n5) st5 go
      refine thnF ti fun r s6 ⟨u, hr, h6⟩ => ?_
      subst hr
      refine thnF h6 fun _ s7 ⟨x, H7, I7, r7, y7, st7, n7⟩ => ?_
      have I7' := I7.pinned (stat I7 n7) (T.obj _ _ st7)
      refine thnF (pg _ s7 _ H7 x u _ I7' r7 (step x H7 y7)) fun _ s8 ⟨σ8, H8, I8, hw8, q8⟩ => ?_
      refine thnF (pt _ s8 σ8 H8 _ I8 q8) fun b s9 ⟨H9, I9, q9⟩ => ?_
      -- the turn's end
      have fin : ∀ {s' : Shared} {H' : Hp}, Inv (X.blk s3 H3 scope ce fp) ([] ++ pinsAt fp s7.heap) σ8 H' s' → Nx H' → ∃ m, m < n ∧ ∃ i H', Inv (X.blk s3 H3 scope ce fp) [] (wipe σ (own.map (·.2))) H' s' ∧ tn i s'.heap ∧ (∀ b ∈ fp, H' b = none) ∧ W i m H' := fun {s' H'} I' nx => by
        obtain ⟨m', hm, w'⟩ := hNx H' nx
        have pin' : ∀ b ∈ fp, ∀ o, s7.heap.get? b = some o → s'.heap.get? b = some o ∧ H' b = none := fun b hb o e =>
          let z := I'.pin (b, o) (List.mem_append_right _ (List.mem_append_right _ (mem_pinsAt hb e)))
          ⟨z.1, z.2.1⟩
        have hl : (wipe σ (own.map (·.2))).length = σ8.length := by rw [← hw8, wipe_length]
        refine ⟨m', hm, i + 1, H', (I'.unpinned (pins := [])).weak hl (fun j v e => ?_), T.keep _ _ _ st7 fun b hb o e => (pin' b hb o e).1, fun b hb => ?_, w'⟩
        · rw [← hw8] at e
          exact (wipe_some e).1
        · obtain ⟨o, e, _⟩ := T.obj _ _ st7 b hb
          exact (pin' b hb o e).2
      cases b with
      | false =>
        simp only [Bool.false_eq_true, if_false] at q9 ⊢
        exact fin I9 q9
      | true =>
        simp only [if_true] at q9 ⊢
        refine thnF (pe _ s9 σ8 H9 _ I9 q9) fun z s10 ⟨yv, H10, I10, r10, acc, hD10, hz10, nx⟩ => ?_
        exact app_ok (X := X.blk s3 H3 scope ce fp) I10 hD10 hz10 r10 fun s11 I11 => fin I11 nx
  exact codeAny_compStart_list loop (T.self X.A 0 _ _ _ st4 loop)
theorem pe_lc {elt tg iter : Expr} {ifs : List Expr} {scope : Scope} {own : List (Str × Nat)} {pos : Pos} {wi : TI} {g : TG} {tt : TT} {te : TE} (hc : X.calm = true) (hN : X.N.Nodup) (hi : PI X tg iter wi) (ok : BlkOk X.N X.env.scope scope own)
    (hg : ∀ (s : Shared) (H : Hp) (C : Addr) (cl : List (Str × Addr)) (fp : List Addr), PG (X.blk s H scope (compEnvC scope cl C X.env) fp) tg g) (ht : ∀ (s : Shared) (H : Hp) (C : Addr) (cl : List (Str × Addr)) (fp : List Addr), PTs (X.blk s H scope (compEnvC scope cl C X.env) fp) ifs tt)
    (he : ∀ (s : Shared) (H : Hp) (C : Addr) (cl : List (Str × Addr)) (fp : List Addr), PE (X.blk s H scope (compEnvC scope cl C X.env) fp) elt te) (hs : ∀ x, foldedSetIterable iter X.env x = pure x := by intro _; rfl) :
    PE X (.ListComp elt [⟨tg, iter, ifs, 0⟩] scope pos) (tLc wi g tt te (own.map (·.2))) := by
  intro pins s σ H Q I h
  rw [eval_ListComp]
  refine lc_core hc hN I hi ok hg ht he hs h fun D C s' m H' I' q hn f => ⟨m, hn, fun h'' sb => ?_⟩
  obtain ⟨f0, f1, f2, f3, f4, f5⟩ := f
  exact ⟨.ref D, H', I'.turned (t' := s'.toks) (fun b o hb e => (sb.2 b hb).trans e) f0 f1 f3 f4 f5, rfl, q⟩
theorem ps_setLc {i : Nat} {y : Str} {py : Pos} {elt tg iter : Expr} {ifs : List Expr} {scope : Scope} {own : List (Str × Nat)} {pos spos : Pos} {wi : TI} {g : TG} {tt : TT} {te : TE} (hc : X.calm = true) (hN : X.N.Nodup) (hy : X.N[i]? = some y) (hyl : X.env.scope.names.lookup y = some .local)
    (hsw : swapsWith (.ListComp elt [⟨tg, iter, ifs, 0⟩] scope pos) (some (.Name y py)) spos.line X.env = pure true) (hi : PI X tg iter wi) (ok : BlkOk X.N X.env.scope scope own)
    (hg : ∀ (s : Shared) (H : Hp) (C : Addr) (cl : List (Str × Addr)) (fp : List Addr), PG (X.blk s H scope (compEnvC scope cl C X.env) fp) tg g) (ht : ∀ (s : Shared) (H : Hp) (C : Addr) (cl : List (Str × Addr)) (fp : List Addr), PTs (X.blk s H scope (compEnvC scope cl C X.env) fp) ifs tt)
    (he : ∀ (s : Shared) (H : Hp) (C : Addr) (cl : List (Str × Addr)) (fp : List Addr), PE (X.blk s H scope (compEnvC scope cl C X.env) fp) elt te) (hs : ∀ x, foldedSetIterable iter X.env x = pure x := by intro _; rfl) :
    PS X (.Assign [.Name y py] (.ListComp elt [⟨tg, iter, ifs, 0⟩] scope pos) spos) (tAsg (tLc wi g tt te (own.map (·.2))) (gName i)) := by
  intro pins s σ H D I h
  rw [exec_Assign_Name_used _ _ _ _ hsw]
  refine wpAny_bind (wpAny_standAt (wpAny_bind ?_))
  show wpAny _ X.A (do let _ ← comprehension (.ListComp elt [⟨tg, iter, ifs, 0⟩] scope pos) scope X.env (firstIterPos [⟨tg, iter, ifs, 0⟩] pos) (newList []) false (eval iter X.env) (some (assign (.Name y py) X.env))) _ _ s
  have h : tLc wi g tt te (own.map (·.2)) σ H (fun x H1 => gName i x σ H1 D.nx) := h
  refine wpAny_bind (thn (lc_core (Qf := fun _ s' => SP X pins D .next s') hc hN I hi ok hg ht he hs h fun L C s' m H' I' q hn f => ?_) fun _ s' hq => wpAny_pure (wpAny_pure hq))
  show wpAny _ _ (assign (.Name y py) X.env (.ref L)) _ _ _
  refine wpAny_assign_Name (store_ok2 (v := V.ref L) I' hN hy (.inl hyl) rfl (fun s2 I2 ⟨a, sb, ha⟩ => ?_) (.inr hyl))
  obtain ⟨f0, f1, f2, f3, f4, f5⟩ := f
  have haC : C ≠ a := by
    rcases ha with z | z
    · rw [z]; exact f1
    · exact fun e => f4 y a z e.symm
  refine ⟨m, hn.sameBut sb haC, fun h3 sb3 => ?_⟩
  exact ⟨_, H', I2.turned (t' := s2.toks) (fun b o hb e => (sb3.2 b hb).trans e) f0 f1 f3 f4 f5, q⟩
theorem sw_true {elt : Expr} {gs : List Comprehension} {scope : Scope} {pos py : Pos} {y : Str} {l : Nat} {env : Env} (hk : env.scope.kind = .function) (hy : env.scope.names.lookup y = some .local) (hl : (py.line == pos.line) = true)
    (ha : (scope.names.any fun (n, k) => n == y && (k == .local || k == .cell)) = false) : swapsWith (.ListComp elt gs scope pos) (some (.Name y py)) l env = pure true := by
  have ky : env.kindOf y = some .local := hy
  have hb : env.blockKind = .function := by unfold Env.blockKind; rw [hk]; rfl
  unfold swapsWith
  simp only [hb, ky, ha, Expr.pos, hl]
  rfl
end
theorem lc_range {lo : Int} {n : Nat} {g : TG} {tt : TT} {te : TE} {vs : List Nat} {σ : St} {H1 : Hp} {D : Addr} {Qd : Hp → Prop} (Pv : Nat → Hp → Prop) (h0 : Pv 0 (upd H1 D (.lst [])))
    (hs : ∀ i H, i < n → Pv i H → g (.int (lo + i)) (wipe σ vs) H fun σ2 H2 => wipe σ2 vs = wipe σ vs ∧ tt σ2 H2 fun b H3 =>
      if b = true then te σ2 H3 fun y H4 => ∃ acc, H4 D = some (.lst acc) ∧ acc.length < sizeLine ∧ Pv (i + 1) (upd H4 D (.lst (acc ++ [y]))) else Pv (i + 1) H3) (hd : ∀ H, Pv n H → Qd H) :
    ∃ W : Nat → Nat → Hp → Prop, (∃ m, W 0 m (upd H1 D (.lst []))) ∧ ∀ i m H, W i m H →
      ((Itr lo n).stop i H ∧ Qd H) ∨ ((Itr lo n).go i H ∧ ∃ Nx : Hp → Prop, (∀ H', Nx H' → ∃ m', m' < m ∧ W (i + 1) m' H') ∧ ∀ x H', (Itr lo n).yld i H x H' → g x (wipe σ vs) H' fun σ2 H2 => wipe σ2 vs = wipe σ vs ∧ tt σ2 H2 fun b H3 =>
        if b = true then te σ2 H3 fun y H4 => ∃ acc, H4 D = some (.lst acc) ∧ acc.length < sizeLine ∧ Nx (upd H4 D (.lst (acc ++ [y]))) else Nx H3) := by
  refine ⟨fun i m H => m = n - i ∧ i ≤ n ∧ Pv i H, ⟨n, by simp, Nat.zero_le _, h0⟩, ?_⟩
  rintro i m H ⟨rfl, hi, p⟩
  by_cases hlt : i < n
  · refine .inr ⟨hlt, Pv (i + 1), fun H' p' => ⟨n - (i + 1), by omega, rfl, hlt, p'⟩, fun x H' y => ?_⟩
    obtain ⟨e, y⟩ := y
    subst e y
    exact hs i _ hlt p
  · have e : i = n := by omega
    subst e
    exact .inl ⟨Nat.le_refl _, hd H p⟩
theorem lc_list {K : PySem.W.Frag} {a : Addr} {xs : List V} {g : TG} {tt : TT} {te : TE} {vs : List Nat} {σ : St} {H1 : Hp} {D : Addr} {Qd : Hp → Prop} (Pv : Nat → Hp → Prop) (h0 : Pv 0 (upd H1 D (.lst []))) (hl : ∀ i H, i ≤ xs.length → Pv i H → SqL K H a xs)
    (hs : ∀ i x H, xs[i]? = some x → Pv i H → g x (wipe σ vs) H fun σ2 H2 => wipe σ2 vs = wipe σ vs ∧ tt σ2 H2 fun b H3 =>
      if b = true then te σ2 H3 fun y H4 => ∃ acc, H4 D = some (.lst acc) ∧ acc.length < sizeLine ∧ Pv (i + 1) (upd H4 D (.lst (acc ++ [y]))) else Pv (i + 1) H3) (hd : ∀ H, Pv xs.length H → Qd H) :
    ∃ W : Nat → Nat → Hp → Prop, (∃ m, W 0 m (upd H1 D (.lst []))) ∧ ∀ i m H, W i m H →
      ((Itl K a).stop i H ∧ Qd H) ∨ ((Itl K a).go i H ∧ ∃ Nx : Hp → Prop, (∀ H', Nx H' → ∃ m', m' < m ∧ W (i + 1) m' H') ∧ ∀ x H', (Itl K a).yld i H x H' → g x (wipe σ vs) H' fun σ2 H2 => wipe σ2 vs = wipe σ vs ∧ tt σ2 H2 fun b H3 =>
        if b = true then te σ2 H3 fun y H4 => ∃ acc, H4 D = some (.lst acc) ∧ acc.length < sizeLine ∧ Nx (upd H4 D (.lst (acc ++ [y]))) else Nx H3) := by
  refine ⟨fun i m H => m = xs.length - i ∧ i ≤ xs.length ∧ Pv i H, ⟨xs.length, by simp, Nat.zero_le _, h0⟩, ?_⟩
  rintro i m H ⟨rfl, hi, p⟩
  have q := hl i H hi p
  by_cases hlt : i < xs.length
  · refine .inr ⟨⟨xs, xs[i], q, by simp [hlt]⟩, Pv (i + 1), fun H' p' => ⟨xs.length - (i + 1), by omega, rfl, hlt, p'⟩, fun x H' y => ?_⟩
    obtain ⟨e, y⟩ := y
    subst e
    exact hs i x _ (y xs q) p
  · have e : i = xs.length := by omega
    subst e
    exact .inl ⟨⟨xs, q, Nat.le_refl _⟩, hd H p⟩
theorem lc_tup {K : PySem.W.Frag} {a : Addr} {xs : List V} {g : TG} {tt : TT} {te : TE} {vs : List Nat} {σ : St} {H1 : Hp} {D : Addr} {Qd : Hp → Prop} (Pv : Nat → Hp → Prop) (h0 : Pv 0 (upd H1 D (.lst []))) (hl : ∀ i H, i ≤ xs.length → Pv i H → SqT K H a xs)
    (hs : ∀ i x H, xs[i]? = some x → Pv i H → g x (wipe σ vs) H fun σ2 H2 => wipe σ2 vs = wipe σ vs ∧ tt σ2 H2 fun b H3 =>
      if b = true then te σ2 H3 fun y H4 => ∃ acc, H4 D = some (.lst acc) ∧ acc.length < sizeLine ∧ Pv (i + 1) (upd H4 D (.lst (acc ++ [y]))) else Pv (i + 1) H3) (hd : ∀ H, Pv xs.length H → Qd H) :
    ∃ W : Nat → Nat → Hp → Prop, (∃ m, W 0 m (upd H1 D (.lst []))) ∧ ∀ i m H, W i m H →
      ((Itt K a).stop i H ∧ Qd H) ∨ ((Itt K a).go i H ∧ ∃ Nx : Hp → Prop, (∀ H', Nx H' → ∃ m', m' < m ∧ W (i + 1) m' H') ∧ ∀ x H', (Itt K a).yld i H x H' → g x (wipe σ vs) H' fun σ2 H2 => wipe σ2 vs = wipe σ vs ∧ tt σ2 H2 fun b H3 =>
        if b = true then te σ2 H3 fun y H4 => ∃ acc, H4 D = some (.lst acc) ∧ acc.length < sizeLine ∧ Nx (upd H4 D (.lst (acc ++ [y]))) else Nx H3) := by
  refine ⟨fun i m H => m = xs.length - i ∧ i ≤ xs.length ∧ Pv i H, ⟨xs.length, by simp, Nat.zero_le _, h0⟩, ?_⟩
  rintro i m H ⟨rfl, hi, p⟩
  have q := hl i H hi p
  by_cases hlt : i < xs.length
  · refine .inr ⟨⟨xs, xs[i], q, by simp [hlt]⟩, Pv (i + 1), fun H' p' => ⟨xs.length - (i + 1), by omega, rfl, hlt, p'⟩, fun x H' y => ?_⟩
    obtain ⟨e, y⟩ := y
    subst e
    exact hs i x _ (y xs q) p
  · have e : i = xs.length := by omega
    subst e
    exact .inl ⟨⟨xs, q, Nat.le_refl _⟩, hd H p⟩
def blkC (N : List Str) (sc scope : Scope) (own : List (Str × Nat)) : Bool :=
  (match scope.kind with | .function => true | _ => false) && (scope.names.all fun y => decide (scope.names.lookup y.1 = some y.2)) && (own.all fun p => decide (N[p.2]? = some p.1)) &&
    (scope.names.all fun y => match y.2 with
      | .free => (match sc.names.lookup y.1 with | some .cell => true | some .free => true | _ => false)
      | .local => decide (y.1 ∈ own.map (·.1)) || decide (y.1 ∉ N)
      | .cell => decide (y.1 ∈ own.map (·.1)) || decide (y.1 ∉ N)
      | _ => true)
theorem blkOk_by {N : List Str} {sc scope : Scope} {own : List (Str × Nat)} (h : blkC N sc scope own = true) : BlkOk N sc scope own := by
  unfold blkC at h
  simp only [Bool.and_eq_true, List.all_eq_true, decide_eq_true_eq] at h
  obtain ⟨⟨⟨h1, h2⟩, h3⟩, h4⟩ := h
  refine ⟨?_, h2, h3, fun y hy e => ?_, fun y hy e => ?_⟩
  · split at h1
    · assumption
    · cases h1
  · have q := h4 y hy
    simp only [e] at q
    split at q <;> first | exact .inl (by assumption) | exact .inr (by assumption) | cases q
  · have q := h4 y hy
    rcases e with e | e <;> (simp only [e, Bool.or_eq_true, decide_eq_true_eq] at q; exact q)
end L2
namespace L2
end L2
namespace L2
open PySem PySem.Spec PyProof.Rows
section
variable {κ : Type} [DecidableEq κ]
def valV (kvs : List (κ × V)) (k : κ) : Option V := (kvs.find? fun kv => decide (kv.1 = k)).map (·.2)
def putK (kvs : List (κ × V)) (k : κ) (v : V) : List (κ × V) :=
  if (kvs.any fun kv => decide (kv.1 = k)) = true then kvs.map (fun kv => if kv.1 = k then (kv.1, v) else kv) else kvs ++ [(k, v)]
def dropK (kvs : List (κ × V)) (k : κ) : List (κ × V) := kvs.filter fun kv => decide (kv.1 ≠ k)
theorem valV_pos {p : κ × V} {r : List (κ × V)} {k : κ} (e : p.1 = k) : valV (p :: r) k = some p.2 := by simp [valV, List.find?_cons, e]
theorem valV_neg {p : κ × V} {r : List (κ × V)} {k : κ} (e : ¬ p.1 = k) : valV (p :: r) k = valV r k := by simp [valV, List.find?_cons, e]
theorem valV_any (k : κ) : ∀ kvs : List (κ × V), (kvs.any fun kv => decide (kv.1 = k)) = (valV kvs k).isSome
  | [] => rfl
  | p :: r => by
    rw [List.any_cons]
    by_cases e : p.1 = k
    · simp only [valV_pos e, decide_eq_true e, Bool.true_or, Option.isSome_some]
    · rw [valV_neg e, decide_eq_false e, Bool.false_or]; exact valV_any k r
theorem length_putK (kvs : List (κ × V)) (k : κ) (v : V) : (putK kvs k v).length ≤ kvs.length + 1 := by
  unfold putK
  split
  · rw [List.length_map]; omega
  · rw [List.length_append, List.length_cons, List.length_nil]; omega
theorem putK_new {kvs : List (κ × V)} {k : κ} (v : V) (h : valV kvs k = none) : putK kvs k v = kvs ++ [(k, v)] := by
  unfold putK
  rw [valV_any, h]
  exact if_neg (by decide)
theorem RelO.isSome_eq {o : Option V} {u : Option Value} (r : RelO o u) : o.isSome = u.isSome := by
  cases o with
  | none => cases u with
    | none => rfl
    | some _ => exact (show False from r).elim
  | some _ => cases u with
    | none => exact (show False from r).elim
    | some _ => rfl
theorem RelO.getD {o : Option V} {u : Option Value} {d : V} {d' : Value} (r : RelO o u) (rd : RelV d d') : RelV (o.getD d) (u.getD d') := by
  cases o with
  | none => cases u with
    | none => exact rd
    | some _ => exact (show False from r).elim
  | some _ => cases u with
    | none => exact (show False from r).elim
    | some _ => exact r
theorem KV.val {kvs : List (κ × V)} {vs : List (κ × Value)} (r : KV kvs vs) (k : κ) : RelO (valV kvs k) (valueAt vs k) := by
  unfold KV at r
  induction r with
  | nil => exact True.intro
  | @cons p q ps qs h t ih =>
    obtain ⟨h1, h2⟩ := h
    by_cases e : p.1 = k
    · have e' : q.1 = k := h1.symm.trans e
      have b : valueAt (q :: qs) k = some q.2 := by simp [valueAt, List.find?_cons, e']
      rw [valV_pos e, b]; exact h2
    · have e' : ¬ q.1 = k := fun z => e (h1.trans z)
      have b : valueAt (q :: qs) k = valueAt qs k := by simp [valueAt, List.find?_cons, e']
      rw [valV_neg e, b]; exact ih
theorem KV.any {kvs : List (κ × V)} {vs : List (κ × Value)} (r : KV kvs vs) (k : κ) : (kvs.any fun kv => decide (kv.1 = k)) = vs.any fun kv => decide (kv.1 = k) := by
  unfold KV at r
  induction r with
  | nil => rfl
  | cons h t ih => rw [List.any_cons, List.any_cons, ih, h.1]
theorem KV.repl {kvs : List (κ × V)} {vs : List (κ × Value)} (r : KV kvs vs) (k : κ) {y : V} {u : Value} (ry : RelV y u) :
    KV (kvs.map fun kv => if kv.1 = k then (kv.1, y) else kv) (vs.map fun kv => if kv.1 = k then (kv.1, u) else kv) := by
  unfold KV at r ⊢
  induction r with
  | nil => exact .nil
  | @cons p q ps qs h t ih =>
    rw [List.map_cons, List.map_cons]
    refine .cons ?_ ih
    obtain ⟨h1, h2⟩ := h
    by_cases e : p.1 = k
    · rw [if_pos e, if_pos (h1.symm.trans e)]; exact ⟨h1, ry⟩
    · rw [if_neg e, if_neg (fun z => e (h1.trans z))]; exact ⟨h1, h2⟩
theorem KV.put {kvs : List (κ × V)} {vs : List (κ × Value)} (r : KV kvs vs) (k : κ) {y : V} {u : Value} (ry : RelV y u) : KV (putK kvs k y) (stored vs k u) := by
  unfold putK stored
  rw [r.any k]
  by_cases e : (vs.any fun kv => decide (kv.1 = k)) = true
  · rw [if_pos e, if_pos e]; exact r.repl k ry
  · rw [if_neg e, if_neg e]; exact Paired.snoc r ⟨rfl, ry⟩
theorem KV.drop {kvs : List (κ × V)} {vs : List (κ × Value)} (r : KV kvs vs) (k : κ) : KV (dropK kvs k) (without vs k) := by
  unfold KV at r ⊢
  unfold dropK without
  induction r with
  | nil => exact .nil
  | @cons p q ps qs h t ih =>
    obtain ⟨h1, h2⟩ := h
    rw [List.filter_cons, List.filter_cons]
    by_cases e : p.1 = k
    · have a : ¬ decide (p.1 ≠ k) = true := by simp [e]
      have b : ¬ decide (q.1 ≠ k) = true := by simp [h1.symm.trans e]
      rw [if_neg a, if_neg b]; exact ih
    · have e' : ¬ q.1 = k := fun z => e (h1.trans z)
      have a : decide (p.1 ≠ k) = true := by simp [e]
      have b : decide (q.1 ≠ k) = true := by simp [e']
      rw [if_pos a, if_pos b]; exact .cons ⟨h1, h2⟩ ih
theorem KV.keys {kvs : List (κ × V)} {vs : List (κ × Value)} (r : KV kvs vs) : kvs.map (·.1) = vs.map (·.1) := by
  unfold KV at r
  induction r with
  | nil => rfl
  | cons h t ih => rw [List.map_cons, List.map_cons, ih, h.1]
theorem KV.length {kvs : List (κ × V)} {vs : List (κ × Value)} (r : KV kvs vs) : kvs.length = vs.length := Paired.length r
end
theorem kV_is {P : Program} {w : World} {k : Key} {u : Value} (r : RelV (kV k) u) : (mixKind P w).is k u = true := by
  cases k with
  | inl i => obtain ⟨t, e⟩ := (show ∃ t, u = Value.int i t from r); subst e; exact mixKind_int P w i t
  | inr x => obtain ⟨t, e⟩ := (show ∃ t, u = Value.str x t from r); subst e; exact mixKind_str P w x t
theorem items_are {P : Program} {w : World} : ∀ {ks : List Key} {us : List Value}, Vals (ks.map kV) us → ItemsAre (mixKind P w) ks us
  | [], _, r => by rw [List.map_nil] at r; cases r; exact .nil
  | k :: ks, _, r => by
    rw [List.map_cons] at r
    cases r with
    | cons h t => exact .cons (kV_is h) (items_are t)
abbrev KT (H : Hp) : List (List Key × V) → List (List Key × Addr × Value) → Prop := Paired fun p q => p.1 = q.1 ∧ H q.2.1 = some (.tup (p.1.map kV)) ∧ RelV p.2 q.2.2
theorem KT.val {H : Hp} {kvs : List (List Key × V)} {xs : List (List Key × Addr × Value)} (r : KT H kvs xs) (k : List Key) : RelO (valV kvs k) ((atKey xs k).map (·.2)) := by
  induction r with
  | nil => exact True.intro
  | @cons p q ps qs h t ih =>
    obtain ⟨h1, _, h2⟩ := h
    by_cases e : p.1 = k
    · have e' : q.1 = k := h1.symm.trans e
      have b : atKey (q :: qs) k = some q.2 := by simp [atKey, List.find?_cons, e']
      rw [valV_pos e, b]; exact h2
    · have e' : ¬ q.1 = k := fun z => e (h1.trans z)
      have b : atKey (q :: qs) k = atKey qs k := by simp [atKey, List.find?_cons, e']
      rw [valV_neg e, b]; exact ih
theorem KT.repl {H : Hp} {kvs : List (List Key × V)} {xs : List (List Key × Addr × Value)} (r : KT H kvs xs) (k : List Key) {y : V} {u : Value} (ry : RelV y u) :
    KT H (kvs.map fun kv => if kv.1 = k then (kv.1, y) else kv) (xs.map (putAt k u)) := by
  induction r with
  | nil => exact .nil
  | @cons p q ps qs h t ih =>
    rw [List.map_cons, List.map_cons]
    refine .cons ?_ ih
    obtain ⟨h1, h2, h3⟩ := h
    unfold putAt
    by_cases e : p.1 = k
    · rw [if_pos e, if_pos (h1.symm.trans e)]; exact ⟨h1, h2, ry⟩
    · rw [if_neg e, if_neg (fun z => e (h1.trans z))]; exact ⟨h1, h2, h3⟩
theorem KT.put {H : Hp} {kvs : List (List Key × V)} {xs : List (List Key × Addr × Value)} (r : KT H kvs xs) (k : List Key) {b : Addr} {y : V} {u : Value} (hb : H b = some (.tup (k.map kV))) (ry : RelV y u) :
    KT H (putK kvs k y) (storedH xs k b u) := by
  have e : (kvs.any fun kv => decide (kv.1 = k)) = (atKey xs k).isSome := by
    rw [valV_any, (r.val k).isSome_eq, Option.isSome_map]
  unfold putK storedH
  rw [e]
  by_cases q : (atKey xs k).isSome = true
  · rw [if_pos q, if_pos q]; exact r.repl k ry
  · rw [if_neg q, if_neg q]; exact Paired.snoc r ⟨rfl, hb, ry⟩
theorem KT.keeps {H H' : Hp} {kvs : List (List Key × V)} {xs : List (List Key × Addr × Value)} (r : KT H kvs xs) (ht : ∀ b ys, H b = some (.tup ys) → H' b = some (.tup ys)) : KT H' kvs xs :=
  Paired.mapP r fun _ _ z => ⟨z.1, ht _ _ z.2.1, z.2.2⟩
section
variable {P : Program} {w : World} {H : Hp} {h : Heap} {a : Addr}
theorem rd_of {u : HO} (ok : HOk P w H h) (e : Rd H a u) : ObjOk P w H h a u := e.ok ok
theorem dk_rd {kvs : List (Key × V)} (ok : HOk P w H h) (e : Rd H a (.dK kvs)) : kvs.length ≤ sizeLine ∧ (a == sysModules) = false ∧ ∃ vs, KV kvs vs ∧ h.DictOf (mixKind P w) a vs :=
  show ObjOk P w H h a (.dK kvs) from rd_of ok e
theorem dk_of {kvs : List (Key × V)} (ok : HOk P w H h) (e : H a = some (.dK kvs)) : kvs.length ≤ sizeLine ∧ (a == sysModules) = false ∧ ∃ vs, KV kvs vs ∧ h.DictOf (mixKind P w) a vs := dk_rd ok (.inl e)
theorem key_of {ks : List Key} (ok : HOk P w H h) (e : H a = some (.tup (ks.map kV))) : (tupleKind (mixKind P w)).is h ks a := by
  obtain ⟨_, its, r, o, h1, h2, _, n, h3⟩ := (show ObjOk P w H h a (.tup (ks.map kV)) from ok a _ e)
  exact ⟨o, its.toArray, n, h1, h2, h3, by simpa using items_are r⟩
theorem dt_rd {kvs : List (List Key × V)} (ok : HOk P w H h) (e : Rd H a (.dT kvs)) : kvs.length ≤ sizeLine ∧ (a == sysModules) = false ∧
    ∃ xs, KT H kvs xs ∧ h.DictOfH (tupleKind (mixKind P w)) a xs := by
  obtain ⟨z, y, xs, r, o, es, ep, h1, h2, h3, h4, h5⟩ := (show ObjOk P w H h a (.dT kvs) from rd_of ok e)
  refine ⟨z, y, xs, r, o, es, ep, h1, h2, h3, h4, fun x hx => ?_, h5⟩
  have all : ∀ {l : List (List Key × V)} {m : List (List Key × Addr × Value)}, KT H l m → ∀ x ∈ m, (tupleKind (mixKind P w)).is h x.1 x.2.1 := by
    intro l m q
    induction q with
    | nil => intro x hx; exact nomatch hx
    | @cons p q ps qs hq t ih =>
      intro x hx
      rcases List.mem_cons.mp hx with e | hx
      · subst e
        exact key_of ok (by rw [← hq.1]; exact hq.2.1)
      · exact ih x hx
  exact all r x hx
theorem dt_of {kvs : List (List Key × V)} (ok : HOk P w H h) (e : H a = some (.dT kvs)) : kvs.length ≤ sizeLine ∧ (a == sysModules) = false ∧
    ∃ xs, KT H kvs xs ∧ h.DictOfH (tupleKind (mixKind P w)) a xs := dt_rd ok (.inl e)
end
def DGet (H : Hp) (a : Addr) (y : V) (r : Option V) : Prop :=
  (∃ kvs k, Rd H a (.dK kvs) ∧ y = kV k ∧ r = valV kvs k) ∨ ∃ kvs k b, Rd H a (.dT kvs) ∧ y = .ref b ∧ H b = some (.tup (k.map kV)) ∧ r = valV kvs k
def DPut (H : Hp) (a : Addr) (y v : V) (H' : Hp) : Prop :=
  (∃ kvs k, H a = some (.dK kvs) ∧ y = kV k ∧ kvs.length < sizeLine ∧ H' = upd H a (.dK (putK kvs k v))) ∨
  ∃ kvs k b, H a = some (.dT kvs) ∧ y = .ref b ∧ H b = some (.tup (k.map kV)) ∧ kvs.length < sizeLine ∧ H' = upd H a (.dT (putK kvs k v))
theorem DGet.k {H : Hp} {a : Addr} {kvs : List (Key × V)} {k : Key} (e : H a = some (.dK kvs)) : DGet H a (kV k) (valV kvs k) := .inl ⟨kvs, k, .inl e, rfl, rfl⟩
theorem DGet.t {H : Hp} {a b : Addr} {kvs : List (List Key × V)} {k : List Key} (e : H a = some (.dT kvs)) (eb : H b = some (.tup (k.map kV))) : DGet H a (.ref b) (valV kvs k) := .inr ⟨kvs, k, b, .inl e, rfl, eb, rfl⟩
theorem DPut.k {H : Hp} {a : Addr} {kvs : List (Key × V)} {k : Key} {v : V} (e : H a = some (.dK kvs)) (hl : kvs.length < sizeLine) : DPut H a (kV k) v (upd H a (.dK (putK kvs k v))) := .inl ⟨kvs, k, e, rfl, hl, rfl⟩
theorem DPut.t {H : Hp} {a b : Addr} {kvs : List (List Key × V)} {k : List Key} {v : V} (e : H a = some (.dT kvs)) (eb : H b = some (.tup (k.map kV))) (hl : kvs.length < sizeLine) :
    DPut H a (.ref b) v (upd H a (.dT (putK kvs k v))) := .inr ⟨kvs, k, b, e, rfl, eb, hl, rfl⟩
section
variable {X : Cx} {pins : List (Addr × Obj)} {σ : St} {H : Hp} {s : Shared} {a : Addr} {y v : V} {u r : Value} {o : Option V} {A : Around} {E : Value → Shared → Prop}
theorem Inv.big (I : Inv X pins σ H s) : sysModules < s.heap.objs.size := by
  have h : mainGlobals < s.heap.objs.size := (I.mod.glob.keeps I.bk).lt
  exact Nat.lt_trans (by decide) h
theorem d_in {Q : Value → Shared → Prop} (hu : A.units + 1 < cLine) (I : Inv X pins σ H s) (g : DGet H a y o) (ry : RelV y u) (h : ∀ s', Inv X pins σ H s' → Q (.bool o.isSome) s') :
    wpAny (model X.prog X.w) A (compareOp .In u (.ref a)) Q E s := by
  rcases g with ⟨kvs, k, e, ey, l⟩ | ⟨kvs, k, b, e, ey, eb, l⟩
  · subst ey
    obtain ⟨z, hd, vs, rel, dd⟩ := dk_rd I.hok e
    refine wpAny_in_of (kV_is ry) hd dd.mapOf ?_
    rw [← (rel.val k).isSome_eq, ← l]
    exact h _ (I.tok _)
  · subst ey
    cases (show u = Value.ref b from ry)
    obtain ⟨z, hd, xs, rel, dd⟩ := dt_rd I.hok e
    refine wpAny_in_heap (tupleKind_room_in1 hu) (key_of I.hok eb) hd dd ?_
    have q := (rel.val k).isSome_eq
    rw [Option.isSome_map] at q
    rw [← q, ← l]
    exact h _ (I.tok _)
theorem d_write {h' : Heap} {t' : Nat} {ob : HO} (I : Inv X pins σ H s) (mu : Mut (H a)) (hs : Heap.SameBut a s.heap h') (he : ∃ q, h'.get? a = some q) (new : ObjOk X.prog X.w (upd H a ob) h' a ob) :
    Inv X pins σ (upd H a ob) { s with heap := h', toks := t' } :=
  I.write (x := a) (e := a) mu (.inl rfl) (fun b q hb z => (hs.2 b hb).trans z) he new
theorem dk_new {P : Program} {w : World} {H' : Hp} {h' : Heap} {kvs : List (Key × V)} {vs : List (Key × Value)} (z : kvs.length ≤ sizeLine) (hd : (a == sysModules) = false) (rel : KV kvs vs) (dd : h'.DictOf (mixKind P w) a vs) :
    ObjOk P w H' h' a (.dK kvs) := ⟨z, hd, vs, rel, dd⟩
theorem d_setItem {H' : Hp} {Q : Unit → Shared → Prop} (hu : A.units + 1 < cLine) (I : Inv X pins σ H s) (g : DPut H a y v H') (ry : RelV y u) (rv : RelV v r) (h : ∀ s', Inv X pins σ H' s' → Q () s') :
    wpAny (model X.prog X.w) A (setItem (.ref a) u r) Q E s := by
  rcases g with ⟨kvs, k, e, ey, l, eH⟩ | ⟨kvs, k, b, e, ey, eb, l, eH⟩
  · subst ey eH
    obtain ⟨z, hd, vs, rel, dd⟩ := dk_of I.hok e
    have hz : vs.length ≤ sizeLine := by rw [← rel.length]; exact z
    have hl : (putK kvs k v).length ≤ sizeLine := by have := length_putK kvs k v; omega
    refine wpAny_setItem_pairs (hsz := hz) (kV_is ry) dd fun h' dd' hs => h _ ?_
    have he : ∃ q, h'.get? a = some q := let ⟨q, _, _, hq, _⟩ := dd'; ⟨q, hq⟩
    exact d_write I (by rw [e]; exact True.intro) hs he (dk_new hl hd (rel.put k rv) dd')
  · subst ey eH
    cases (show u = Value.ref b from ry)
    obtain ⟨z, hd, xs, rel, dd⟩ := dt_of I.hok e
    have hz : xs.length ≤ sizeLine := by rw [← Paired.length rel]; exact z
    have hl : (putK kvs k v).length ≤ sizeLine := by have := length_putK kvs k v; omega
    refine wpAny_setItem_heap (hsz := hz) (tupleKind_room_in1 hu) (key_of I.hok eb) dd fun h' dd' hs => h _ ?_
    obtain ⟨q, es, ep, hq, h2, h3, h4, _, h5⟩ := dd'
    refine d_write I (by rw [e]; exact True.intro) hs ⟨q, hq⟩ ⟨hl, hd, _, (rel.put k eb rv).keeps fun c ys ec => ?_, q, es, ep, hq, h2, h3, h4, h5⟩
    rw [upd_ne (ne_of ec e (fun z => nomatch z))]
    exact ec
end
def tDIn (ty td : TE) : TE := fun σ H Q => ty σ H fun y H1 => td σ H1 fun x H2 => ∃ a o, x = .ref a ∧ DGet H2 a y o ∧ Q (.bl o.isSome) H2
def sDPut (td ty tv : TE) : TS := fun D σ H => tv σ H fun v H1 => td σ H1 fun x H2 => ty σ H2 fun y H3 => ∃ a H4, x = .ref a ∧ DPut H3 a y v H4 ∧ D.nx σ H4
section
variable {X : Cx} {o i e value : Expr} {pos pos' tpos : Pos} {td ty tv : TE}
theorem pc_din (hu : X.A.units + 1 < cLine) (hi : PE X i ty) (ho : PE X o td) : PC X .In i o (tDIn ty td) := by
  intro pins s σ H Q I h
  refine thn (hi pins s σ H _ I h) fun iv s1 ⟨y, H1, I1, ry, q1⟩ => thn (ho pins s1 σ H1 _ I1 q1) fun u s2 ⟨x, H2, I2, rx, a, ov, ex, g, q2⟩ => ?_
  subst ex
  obtain rfl : u = Value.ref a := rx
  exact d_in hu I2 g ry fun s3 I3 => ⟨.bl ov.isSome, H2, I3, rfl, q2⟩
theorem ps_dput (hu : X.A.units + 1 < cLine) (ho : PE X o td) (hi : PE X i ty) (hv : PE X value tv) (hs : swapsWith value (some (.Subscript o i pos')) pos.line X.env = pure false) :
    PS X (.Assign [.Subscript o i pos'] value pos) (sDPut td ty tv) := by
  intro pins s σ H D I h
  refine wpAny_Assign_Subscript (thn (hv pins s σ H _ I h) fun r s1 ⟨v, H1, I1, rv, q1⟩ => thn (ho pins s1 σ H1 _ I1 q1) fun u s2 ⟨x, H2, I2, rx, q2⟩ => thn (hi pins s2 σ H2 _ I2 q2) fun iv s3 ⟨y, H3, I3, ry, a, H4, ex, g, q3⟩ => ?_) hs
  subst ex
  obtain rfl : u = Value.ref a := rx
  exact d_setItem hu I3 g ry rv fun s4 I4 => ⟨σ, H4, I4, q3⟩
end
theorem dk_empty {P : Program} {w : World} {H : Hp} (h : Heap) (hb : sysModules < h.objs.size) : ObjOk P w H (h.push { cls := .type "dict", data := .dict #[] }) h.objs.size (.dK []) :=
  ⟨Nat.zero_le _, beq_eq_false_iff_ne.mpr (Ne.symm (Nat.ne_of_lt hb)), [], .nil, Heap.DictOf.new h⟩
theorem dt_empty {P : Program} {w : World} {H : Hp} (h : Heap) (hb : sysModules < h.objs.size) : ObjOk P w H (h.push { cls := .type "dict", data := .dict #[] }) h.objs.size (.dT []) :=
  ⟨Nat.zero_le _, beq_eq_false_iff_ne.mpr (Ne.symm (Nat.ne_of_lt hb)), [], .nil, _, #[], 0, Heap.get?_push_size _ rfl, ⟨rfl, rfl, rfl⟩, rfl, rfl, List.nodup_nil⟩
def tDNewT : TE := fun _ H Q => ∀ p, H p = none → Q (.ref p) (upd H p (.dT []))
section
variable {X : Cx} {pos : Pos}
theorem pe_dnewT : PE X (.Dict [] [] pos) tDNewT := fun pins s σ H Q I h =>
  wpAny_Dict_empty ⟨.ref s.heap.objs.size, _, I.laid (a := s.heap.objs.size) (o := .dT []) (t' := s.toks) (fun _ _ q => Heap.get?_push_of_some _ q) (Nat.le_refl _) (dt_empty s.heap I.big), rfl, h _ (I.hok.fresh (Nat.le_refl _))⟩
end
def tPairs : List (TE × TE) → St → Hp → (List (V × V) → Hp → Prop) → Prop
  | [], _, H, Q => Q [] H
  | (tk, tv) :: r, σ, H, Q => tk σ H fun x H1 => tv σ H1 fun y H2 => tPairs r σ H2 fun ps H3 => Q ((x, y) :: ps) H3
abbrev VV : List (V × V) → List (Value × Value) → Prop := Paired fun p q => RelV p.1 q.1 ∧ RelV p.2 q.2
def PPs (X : Cx) (pos : Pos) (keys : List (Option Expr)) (values : List Expr) (trs : List (TE × TE)) : Prop :=
  ∀ (pins : List (Addr × Obj)) (s : Shared) (σ : St) (H : Hp) (Q : List (V × V) → Hp → Prop), Inv X pins σ H s → tPairs trs σ H Q →
    wpAny (model X.prog X.w) X.A (evalPairs (pairTrees keys values X.env pos)) (fun vs s' => ∃ ps H', Inv X pins σ H' s' ∧ VV ps vs ∧ Q ps H') X.xe s
theorem pps_nil {X : Cx} {pos : Pos} : PPs X pos [] [] [] := fun pins s σ H Q I h => pairTrees_nil_walk ⟨[], H, I, .nil, h⟩
theorem pps_cons {X : Cx} {pos : Pos} {k v : Expr} {ks : List (Option Expr)} {vs : List Expr} {tk tv : TE} {trs : List (TE × TE)} (hk : PE X k tk) (hv : PE X v tv) (hr : PPs X pos ks vs trs) :
    PPs X pos (some k :: ks) (v :: vs) ((tk, tv) :: trs) := fun pins s σ H Q I h =>
  pairTrees_cons_walk (thn (hk pins s σ H _ I h) fun u s1 ⟨x, H1, I1, rx, q1⟩ => thn (hv pins s1 σ H1 _ I1 q1) fun w2 s2 ⟨y, H2, I2, ry, q2⟩ =>
    thn (hr pins s2 σ H2 _ I2 q2) fun ws s3 ⟨ps, H3, I3, rel, q3⟩ => ⟨(x, y) :: ps, H3, I3, .cons ⟨rx, ry⟩ rel, q3⟩)
def mergeK (kvs more : List (Key × V)) : List (Key × V) := more.foldl (fun acc kv => putK acc kv.1 kv.2) kvs
theorem KV.merge : ∀ {more : List (Key × V)} {rs : List (Key × Value)} {kvs : List (Key × V)} {vs : List (Key × Value)}, KV more rs → KV kvs vs → KV (mergeK kvs more) (merged vs rs) := by
  intro more rs kvs vs r
  unfold KV at r
  induction r generalizing kvs vs with
  | nil => intro q; exact q
  | @cons p q ps qs h t ih =>
    intro r0
    have e : KV (putK kvs p.1 p.2) (stored vs q.1 q.2) := by
      have := r0.put p.1 h.2
      rw [← h.1]; exact this
    exact ih e
theorem length_mergeK : ∀ (more kvs : List (Key × V)), (mergeK kvs more).length ≤ kvs.length + more.length
  | [], kvs => by show kvs.length ≤ kvs.length + 0; omega
  | p :: r, kvs => by
    have h1 := length_mergeK r (putK kvs p.1 p.2)
    have h2 := length_putK kvs p.1 p.2
    show (mergeK (putK kvs p.1 p.2) r).length ≤ _
    rw [List.length_cons]; omega
theorem carries_of {P : Program} {w : World} : ∀ {kvs : List (Key × V)} {ws : List (Value × Value)}, VV (kvs.map fun kv => (kV kv.1, kv.2)) ws → ∃ rs, Carries (mixKind P w) ws rs ∧ KV kvs rs
  | [], _, r => by rw [List.map_nil] at r; cases r; exact ⟨[], True.intro, .nil⟩
  | p :: kvs, _, r => by
    rw [List.map_cons] at r
    cases r with
    | @cons a b as bs h t =>
      obtain ⟨rs, c, q⟩ := carries_of (P := P) (w := w) t
      obtain ⟨b1, b2⟩ := b
      exact ⟨(p.1, b2) :: rs, ⟨kV_is h.1, rfl, c⟩, .cons ⟨rfl, h.2⟩ q⟩
def tDisp (trs : List (TE × TE)) : TE := fun σ H Q => ∀ p, H p = none → tPairs trs σ (upd H p (.dK [])) fun ps H2 => H2 p = some (.dK []) ∧ ∃ kvs : List (Key × V), ps = kvs.map (fun kv => (kV kv.1, kv.2)) ∧ kvs.length ≤ 15 ∧ Q (.ref p) (upd H2 p (.dK (mergeK [] kvs)))
theorem pe_disp {X : Cx} {pos : Pos} {keys : List (Option Expr)} {values : List Expr} {trs : List (TE × TE)} (h : PPs X pos keys values trs) (hall : keys.all (·.isSome) = true) (hl : keys.length = values.length) (h0 : keys ≠ [])
    (h15 : keys.length ≤ 15) : PE X (.Dict keys values pos) (tDisp trs) := by
  intro pins s σ H Q I q
  have hn := I.hok.fresh (Nat.le_refl s.heap.objs.size)
  have I1 := I.laid (a := s.heap.objs.size) (o := .dK []) (h' := s.heap.push { cls := .type "dict", data := .dict #[] }) (t' := s.toks) (fun _ _ q => Heap.get?_push_of_some _ q) (Nat.le_refl _) (dk_empty s.heap I.big)
  refine wpAny_Dict_walk (knd := mixKind X.prog X.w) hall hl h0 h15 (thn (h pins _ σ _ _ I1 (q _ hn)) fun ws s2 ⟨ps, H2, I2, rel, e, kvs, ep, lk, q2⟩ => ?_)
  subst ep
  obtain ⟨rs, c, rk⟩ := carries_of (P := X.prog) (w := X.w) rel
  obtain ⟨z, hd, vs0, r0, dd⟩ := dk_of I2.hok e
  cases r0
  refine ⟨rs, c, dd, fun h' dd' hs => ⟨.ref s.heap.objs.size, _, ?_, rfl, q2⟩⟩
  have hz : (mergeK [] kvs).length ≤ sizeLine := by
    have h1 := length_mergeK kvs []
    rw [List.length_nil] at h1
    rw [sizeLine_eq]; omega
  have he : ∃ q, h'.get? s.heap.objs.size = some q := let ⟨q, _, _, hq, _⟩ := dd'; ⟨q, hq⟩
  exact d_write I2 (by rw [e]; exact True.intro) hs he (dk_new hz hd (rk.merge .nil) dd')
structure M1 (X : Cx) (o : Expr) (m : Str) (apos : Pos) (e : Expr) (cpos : Pos) : Prop where
  base : attributeBase o m X.env (eval o X.env) = eval o X.env
  few : ((backTo cpos (starEach [e] X.env)).all (fun x => !x.1) && (backToKw cpos (keywordEach [] X.env)).all (fun x => x.1.isSome)
    && decide (([e] : List Expr).length + ([] : List Keyword).length + (if ([] : List Keyword).isEmpty then 0 else 1) < 30)) = true
  line : (apos.endLine == cpos.line) = true
  trees : backTo cpos (starEach [e] X.env) = [(false, eval e X.env)]
structure M2 (X : Cx) (o : Expr) (m : Str) (apos : Pos) (e f : Expr) (cpos : Pos) : Prop where
  base : attributeBase o m X.env (eval o X.env) = eval o X.env
  few : ((backTo cpos (starEach [e, f] X.env)).all (fun x => !x.1) && (backToKw cpos (keywordEach [] X.env)).all (fun x => x.1.isSome)
    && decide (([e, f] : List Expr).length + ([] : List Keyword).length + (if ([] : List Keyword).isEmpty then 0 else 1) < 30)) = true
  line : (apos.endLine == cpos.line) = true
  trees : backTo cpos (starEach [e, f] X.env) = [(false, eval e X.env), (false, eval f X.env)]
def IsD (H : Hp) (a : Addr) : Prop := (∃ kvs, Rd H a (.dK kvs)) ∨ ∃ kvs, Rd H a (.dT kvs)
theorem isD_at {X : Cx} {pins : List (Addr × Obj)} {σ : St} {H : Hp} {s : Shared} {a : Addr} (I : Inv X pins σ H s) (d : IsD H a) :
    s.TypeIs (.ref a) "dict" ∧ (∀ b, Value.ref a = .ref b → ∃ ob, s.heap.get? b = some ob ∧ ob.dict = none) ∧ (a == sysModules) = false := by
  rcases d with ⟨kvs, e⟩ | ⟨kvs, e⟩
  · obtain ⟨_, hd, vs, _, dd⟩ := dk_rd I.hok e
    refine ⟨dd.typeIs, fun b q => ?_, hd⟩
    cases q
    obtain ⟨ob, _, _, h1, h2, _⟩ := dd
    exact ⟨ob, h1, h2.2.1⟩
  · obtain ⟨_, hd, xs, _, dd⟩ := dt_rd I.hok e
    refine ⟨dd.typeIs, fun b q => ?_, hd⟩
    cases q
    obtain ⟨ob, _, _, h1, h2, _⟩ := dd
    exact ⟨ob, h1, h2.2.1⟩
section
variable {X : Cx} {pins : List (Addr × Obj)} {σ : St} {H : Hp} {s : Shared} {a : Addr} {y d : V} {u r : Value} {o : Option V} {A : Around} {E : Value → Shared → Prop}
theorem d_get2 {Q : Value → Shared → Prop} (hu : A.units + 1 < cLine) (I : Inv X pins σ H s) (g : DGet H a y o) (ry : RelV y u) (rd : RelV d r) (h : ∀ w' s', Inv X pins σ H s' → RelV (o.getD d) w' → Q w' s') :
    wpAny (model X.prog X.w) A (call (.builtin "dict.get") [.ref a, u, r]) Q E s := by
  rcases g with ⟨kvs, k, e, ey, l⟩ | ⟨kvs, k, b, e, ey, eb, l⟩
  · subst ey
    obtain ⟨z, hd, vs, rel, dd⟩ := dk_rd I.hok e
    refine call_meetsIn PySem.F.slot_dict_get dd.typeIs PySem.F.entry_dict_get (PySem.F.args_dict_get_3 _ _ _) (meets_dict_get_default (mixKind X.prog X.w) a (kV_is ry) hd r) ⟨_, dd.mapOf, h _ _ (I.tok _) ?_⟩
    rw [l]
    exact (rel.val k).getD rd
  · subst ey
    cases (show u = Value.ref b from ry)
    obtain ⟨z, hd, xs, rel, dd⟩ := dt_rd I.hok e
    refine call_meetsIn PySem.F.slot_dict_get dd.typeIs PySem.F.entry_dict_get (PySem.F.args_dict_get_3 _ _ _) (meetsH_dict_get_default (tupleKind (mixKind X.prog X.w)) a b hd r) ⟨tupleKind_room_in1 hu, k, xs, key_of I.hok eb, dd, h _ _ (I.tok _) ?_⟩
    rw [l]
    exact (rel.val k).getD rd
end
def tDGet2 (td ty tx : TE) : TE := fun σ H Q => td σ H fun x H1 => ∃ a, x = .ref a ∧ IsD H1 a ∧ ty σ H1 fun y H2 => tx σ H2 fun z H3 => ∃ o, DGet H3 a y o ∧ Q (o.getD z) H3
section
variable {X : Cx} {o e f : Expr} {apos cpos : Pos} {td ty tx : TE}
theorem pe_dget2 (hu : X.A.units + 1 < cLine) (ho : PE X o td) (he : PE X e ty) (hf : PE X f tx) (m : M2 X o "get" apos e f cpos) : PE X (.Call (.Attribute o "get" apos) [e, f] [] cpos) (tDGet2 td ty tx) := by
  intro pins s σ H Q I h
  refine wpAny_Call_method m.base m.few m.line PySem.F.plainAttrs_dict PySem.F.slot_dict_get PySem.F.type_dict_get (thn (ho pins s σ H _ I h) fun u s1 ⟨x, H1, I1, rx, a, ex, d, q1⟩ => ?_)
  subst ex
  obtain rfl : u = Value.ref a := rx
  obtain ⟨t1, t2, _⟩ := isD_at I1 d
  refine ⟨t1, t2, ?_⟩
  rw [m.trees]
  refine Calls.callWith_builtin rfl (Calls.evalArgs_plain (Calls.spliced_cons (thn (he pins s1 σ H1 _ I1 q1) fun iv s2 ⟨y, H2, I2, ry, q2⟩ =>
    Calls.spliced_cons (thn (hf pins s2 σ H2 _ I2 q2) fun fv s3 ⟨z, H3, I3, rz, ov, g, q3⟩ => Calls.spliced_nil ?_))))
  exact d_get2 hu I3 g ry rz fun w' s4 I4 rw' => ⟨_, H3, I4, rw', q3⟩
end
end L2
namespace L2
end L2
namespace L2
open PySem PySem.Spec PyProof.Rows
section
variable {X : Cx} {pins : List (Addr × Obj)} {σ : St} {H : Hp} {s : Shared} {h' : Heap}
theorem Inv.turnedNew {t' : Nat} {ch : List Addr} {T : Addr} {ob : HO} (I : Inv X pins σ H s) (k : ∀ b o, b ∉ ch → s.heap.get? b = some o → h'.get? b = some o) (hf : ∀ b ∈ ch, FpOk X pins H b) (hT : s.heap.objs.size ≤ T)
    (new : ObjOk X.prog X.w (upd H T ob) h' T ob) : Inv X pins σ (upd H T ob) { s with heap := h', toks := t' } := by
  have hn : H T = none := I.hok.fresh hT
  have nit : ∀ b u, H b = some u → b ∉ ch := fun b u e z => by
    have q := (hf b z).1
    rw [q] at e; cases e
  refine I.step (g' := s.gens) (d' := s.drawn) (ch := ch) (fun b hb => ⟨(hf b hb).2.2.2.1, (hf b hb).2.1, (hf b hb).2.2.2.2.1, (hf b hb).2.2.2.2.2⟩) (fun b o _ _ hc e _ => k b o hc e) (fun b o _ _ hc e _ => ⟨o.slots, k b o hc e⟩)
    (fun b o _ e n => ?_) (fun b o hc e => ⟨o, k b o hc e⟩) (fun b xs e => ?_) (fun b o u e => ?_) (fun b ps e => ⟨#[], ?_⟩) (fun m hm => ?_) (fun b u e => ?_) I.bare
  · rw [upd_ne (Nat.ne_of_lt (Nat.lt_of_lt_of_le (Heap.lt_size e) hT))]; exact n
  · rw [upd_ne (ne_of_none e hn)]; exact e
  · rw [upd_ne (ne_of_none e hn)]; exact e
  · rw [upd_ne (ne_of_none e hn), e]; simp
  · obtain ⟨o, es, ep, ho, r⟩ := hm
    exact ⟨o, es, ep, k _ o (fun z => (hf _ z).2.1 rfl) ho, r⟩
  · by_cases hb : b = T
    · subst hb
      rw [upd_same] at e
      cases e
      exact new
    · rw [upd_ne hb] at e
      refine (I.hok b u e).stay (fun c v hc q => k c v ?_ q) (fun c q => by rw [upd_ne (ne_of_none q hn)]; exact q) fun c xs q => by rw [upd_ne (ne_of_none q hn)]; exact q
      rcases hc with z | z
      · rw [z]; exact nit b u e
      · exact nit c _ z
end
theorem paired_get {α β : Type} {G : α → β → Prop} {l₁ : List α} {l₂ : List β} (h : Paired G l₁ l₂) : ∀ {i : Nat} {a : α}, l₁[i]? = some a → ∃ b, l₂[i]? = some b ∧ G a b := by
  induction h with
  | nil => intro i a e; simp at e
  | @cons a b l₁ l₂ r t ih =>
    intro i a' e
    cases i with
    | zero =>
      simp only [List.getElem?_cons_zero, Option.some.injEq] at e
      subst e
      exact ⟨b, rfl, r⟩
    | succ j =>
      simp only [List.getElem?_cons_succ] at e ⊢
      exact ih e
def Ite (K : PySem.W.Frag) (a : Addr) : It :=
  ⟨fun i H => ∃ (xs : List V) (x : V), SqL K H a xs ∧ xs[i]? = some x, fun i H v H' => ∃ T x, v = .ref T ∧ H T = none ∧ H' = upd H T (.tup [.int (i : Nat), x]) ∧ ∀ xs, SqL K H a xs → xs[i]? = some x, fun i H => ∃ xs : List V, SqL K H a xs ∧ xs.length ≤ i⟩
theorem turn_enum {P : Program} {w : World} {K : PySem.W.Frag} {elts : List Expr} {kk : Nat} {tpos : Pos} (a e it : Addr) :
    Turn P w K (.Tuple elts kk tpos) (Ite K a) [e, it] e (fun i h => (∃ old, IsEnum h e it ((i : Nat) : Int) old) ∧ h.IsListIter it a i ∧ e ≠ it) where
  mem := by simp
  obj := fun i h st b hb => by
    obtain ⟨⟨old, he⟩, ⟨o, ho, hc, hd⟩, _⟩ := st
    have e' : b = e ∨ b = it := by simpa using hb
    rcases e' with z | z
    · rw [z]; exact ⟨_, he, fun v q => nomatch q⟩
    · rw [z]; exact ⟨o, ho, fun v q => by rw [hd] at q; cases q⟩
  keep := fun i h h' st k => let ⟨⟨old, he⟩, hi, hne⟩ := st; ⟨⟨old, k e (by simp) _ he⟩, hi.at fun o q => k it (by simp) o q, hne⟩
  item := by
    intro X hP hw hK hc i pins s σ H E I hf st hg
    subst hP hw hK
    obtain ⟨⟨old, he⟩, hit, hne⟩ := st
    obtain ⟨xs, x, hq, hx⟩ := hg
    obtain ⟨its, rv, p, hz⟩ := I.list hq
    obtain ⟨u, hu, ru⟩ := rv.get hx
    have hel : e < s.heap.objs.size := Heap.lt_size he
    have hil : it < s.heap.objs.size := by obtain ⟨_, q, _⟩ := hit; exact Heap.lt_size q
    refine wpAny_pyNext_enum_item he hit p.isList (x := u) (by simpa using hu) hne fun h' ho hit' hT hsz hk => ?_
    refine ⟨_, rfl, wpAny_letOwnedTupleGo_enum (s := { s with heap := h', toks := s.toks + 1 }) ho fun h'' he' sb => ?_⟩
    have hT2 : h''.get? s.heap.objs.size = some { cls := .type "tuple", data := .seq #[.int i s.toks, u] } := (sb.2 _ (Nat.ne_of_gt hel)).trans hT
    have new : ObjOk X.prog X.w (upd H s.heap.objs.size (.tup [.int (i : Nat), x])) h'' s.heap.objs.size (.tup [.int (i : Nat), x]) :=
      ⟨by show 2 ≤ sizeLine; decide, [.int i s.toks, u], .cons ⟨_, rfl⟩ (.cons ru .nil), ⟨_, hT2, rfl, rfl, _, rfl⟩⟩
    have I1 : Inv X pins σ (upd H s.heap.objs.size (.tup [.int (i : Nat), x])) { s with heap := h'', toks := s.toks + 1 } :=
      I.turnedNew (ch := [e, it]) (fun b ob hb q => (sb.2 b (fun z => hb (by simp [z]))).trans (hk b ob (fun z => hb (by simp [z])) (fun z => hb (by simp [z])) q)) hf (Nat.le_refl _) new
    refine ⟨.ref s.heap.objs.size, _, I1, rfl, ⟨_, x, rfl, I.hok.fresh (Nat.le_refl _), rfl, fun ys hy => by rw [I.list_inj hy hq]; exact hx⟩, ⟨⟨u, ?_⟩, hit'.at fun o q => (sb.2 it (Ne.symm hne)).trans q, hne⟩, fun b hb => ?_⟩
    · have e1 : ((i + 1 : Nat) : Int) = (i : Int) + 1 := by omega
      rw [e1]; exact he'
    · have hb' : b < s.heap.objs.size := by
        have e' : b = e ∨ b = it := by simpa using hb
        rcases e' with z | z
        · rw [z]; exact hel
        · rw [z]; exact hil
      rw [upd_ne (Nat.ne_of_lt hb')]
      exact (hf b hb).1
  done := by
    intro X hP hw hK hc i pins s σ H E I hf st hg
    subst hP hw hK
    obtain ⟨⟨old, he⟩, hit, hne⟩ := st
    obtain ⟨xs, hq, hx⟩ := hg
    obtain ⟨its, rv, p, hz⟩ := I.list hq
    obtain ⟨f0, f1, f2, f3, f4, f5⟩ := hf it (by simp)
    have hl := rv.length
    exact wpAny_pyNext_enum_end (I.ok.hd hc) he hit p.isList (by simp; omega) fun h' eb => ⟨rfl, I.turned (t' := s.toks) (fun b o hb q => eb b o hb q) f0 f1 f3 f4 f5⟩
  self := fun A i s Q E st h => let ⟨⟨_, he⟩, _⟩ := st; wpAny_pyIter_enum he h
end L2
section 
namespace Bits
end Bits
end 
section 
namespace TL
open PySem PySem.Builtin PySem.Builtin.Str PySem.StrLaws
abbrev tl (x : Str) : List Nat := x.cps.toList
def pre (S l : List Nat) : Bool := l.take S.length == S
def par (S : List Nat) : List Nat → List Nat → Option (List Nat × List Nat)
  | _, [] => none
  | acc, c :: r => if pre S (c :: r) = true then some (acc, (c :: r).drop S.length) else par S (acc ++ [c]) r
end TL
end 
namespace L2
end L2
namespace L2
end L2
namespace Att
open PySem PySem.W PySem.Calls PyProof.Rows
theorem ints_of_wellAll {P : Params} {h : Heap} : ∀ (ns : List Int) (vs : List Value), WellAll P h vs (ns.map WData.int) → IntsAre vs ns := by
  intro ns
  induction ns with
  | nil =>
    intro vs w
    rw [List.map_nil] at w
    cases w
    exact .nil
  | cons n ns ih =>
    intro vs w
    rw [List.map_cons] at w
    cases w with
    | cons a b =>
      cases a
      exact .cons _ _ (ih _ b)
theorem script_of {l : OpenLaw} {n : Nat} (hn : l.most = some n) {P : Params} {h : Heap} {args : List WData} {vals : List Value}
    (hpre : l.row.toRowW.claim.pre args = true) (hwl : WellAll P h vals args) :
    ∃ a vs ns, vals = [Value.ref a] ∧ args = [WData.list (ns.map WData.int)] ∧ h.get? a = some { cls := .type "list", data := .seq vs.toArray } ∧ IntsAre vs ns ∧ ns.length ≤ n := by
  have hsh : WShape.hasAll [] args [.list .int] = true := (pre_splitW hpre).1
  have hc : l.pre.holds [] { args := args } = true := (pre_splitW hpre).2
  obtain ⟨d, r, rfl, h1, h2⟩ := hasAllW_cons hsh
  obtain rfl := hasAllW_nil h2
  obtain ⟨xs, rfl, h3⟩ := hasW_list h1
  obtain ⟨ns, rfl⟩ := items_int h3
  have hlen : ns.length ≤ n := by
    unfold OpenLaw.pre at hc
    have h4 : (WTm.not (.lt (.lit (.int (n : Int))) (.len (.arg 0)))).holds [] { args := [.list (ns.map .int)] } = true := by
      have h4 := (holds_andW hc).1
      rw [hn] at h4
      exact h4
    have h5 := condW_of h4 (w_not (w_lt w_lit (w_len_list (w_arg rfl))))
    rw [List.length_map] at h5
    refine Nat.le_of_not_lt fun q => ?_
    have q' : (n : Int) < ((ns.length : Nat) : Int) := by omega
    first
      | (rw [decide_eq_true q'] at h5; exact absurd h5 (by decide))
      | (simp at h5; omega)
  cases hwl with
  | cons w1 w2 =>
    cases w2
    cases w1 with
    | list ho hall => exact ⟨_, _, ns, rfl, rfl, ho, ints_of_wellAll ns _ hall, hlen⟩
theorem post_true (l : OpenLaw) (args : List WData) : l.row.toRowW.claim.post args (.bool true) args = true :=
  postW_of (r := l.row.toRowW) (X := (true == true))
    (show WShape.has [] (.bool true) .bool = true by first | rfl | decide | simp [WShape.has, WShape.arms, WShape.armsAll])
    (show (WTm.eq .res (.lit (.bool true))).value [] { args := args, res := some (.bool true), after := args } = some (.bool (true == true)) from w_eq_bool (w_res rfl) w_lit) rfl
theorem attach_call {l : OpenLaw} {n : Nat} {q : Program} {loose : List Str} {XP : (Str → Option Value) → Heap → Prop} {YP : World → Heap → Prop} {d : DefRec}
    (hn : l.most = some n) (hdf : d.params.defaults = [])
    (call : ∀ (w : World) (s₀ s₁ : Shared) (mg mb : Str → Option Value) (fa : Addr) (o : Obj) (pm cd doc : Value) (a : Addr) (vs : List Value) (ns : List Int),
      Ground q loose [] XP w s₀ mg mb s₁.heap → YP w s₁.heap →
      s₁.heap.get? fa = some o → o.data = .func (docDef d.name d.params d.body d.scope pm cd doc) → s₁.heap.CodeRec cd d.name → mg d.name = some (.ref fa) →
      s₁.heap.get? a = some { cls := .type "list", data := .seq vs.toArray } → IntsAre vs ns → ns.length ≤ n → s₁.gens = #[] →
      codeAny (model l.prog w) callerA (.call (.ref fa) ⟨[.ref a], []⟩) (fun r s' => r = .ok (.ret (.bool true)) ∧ OldK s₁.heap s'.heap ∧ s'.os = s₁.os ∧ AllBare s'.gens) s₁) :
    WalkO q loose XP YP l.row.toRowW d [] (fun f vs => PySem.call f vs) := by
  intro w s₀ s₁ mg mb G Y fa o pm cd doc dV kV ho hd hcd hD hmg hg args vals as hpre hlay hrd hwl hlo
  obtain rfl : dV = .none := Dflts.none hD hdf
  obtain rfl : kV = .none := Dflts.noKw hD
  obtain ⟨a, vs, ns, rfl, rfl, hobj, hints, hlen⟩ := script_of hn hpre hwl
  refine enter_call (codeAny_mono (call w s₀ s₁ mg mb fa o pm cd doc a vs ns G Y ho (fd_plain hd) hcd hmg hobj hints hlen hg) fun r s' hq => ?_)
  obtain ⟨rfl, h2, h3, h4⟩ := hq
  exact ⟨.inl ⟨.bool true, .bool true, [], rfl, fun _ => rfl, .bool true, post_true l _, fun _ => ⟨List.Pairwise.nil, fun _ hm => (nomatch hm)⟩⟩, h2, h3, h4⟩
end Att
namespace L2
open PySem PySem.Spec PyProof.Rows
theorem vals_ints : ∀ {vs : List Value} {ns : List Int}, IntsAre vs ns → Vals (ns.map V.int) vs
  | _, _, .nil => .nil
  | _, _, .cons n t h => .cons ⟨t, rfl⟩ (vals_ints h)
def Only (H : Hp) : Prop := ∀ b, H b = none ∨ ∃ o xs, H b = some (.frz o (.lst xs))
theorem law_call {P : Program} {w : World} {K : PySem.W.Frag} {mg mb : Str → Option Value} {CX : CXT} {k : Nat} {fa a : Addr} {fd : FuncData} {x : Str} {sp : Sp} {s₁ : Shared} {vs : List Value} {ns : List Int}
    (KX : K.In s₁.heap) (hns : s₁.heap.Ns mainGlobals mg) (hb : s₁.heap.Ns builtinsNs mb) (hbb : ∀ x : Str, x ≠ "__name__" → mb x = bootBuiltins x) (hlim : s₁.heap.NoLimit) (hg : s₁.gens = #[])
    (ha : s₁.heap.get? a = some { cls := .type "list", data := .seq vs.toArray }) (hi : IntsAre vs ns) (hl : ns.length ≤ sizeLine) (hr : Room k callerA)
    (F : ∀ base : Heap, K.In base → base.Ns mainGlobals mg → FnOk P w K mg base CX k fa fd [x] sp) (hbind : ∀ (s : Shared) (u : Value), BindsTo s fd ⟨[u], []⟩ [(x, u)])
    (hsp : ∀ H : Hp, Only H → SqL K H a (ns.map V.int) → sp [.ref a] H (fun v _ => v = .bl true) fun _ _ _ => False)
    (hCX : ∀ H e s', CX [] H s₁ (fun _ _ _ => False) e s' → False) :
    codeAny (model P w) callerA (.call (.ref fa) ⟨[.ref a], []⟩) (fun r s' => r = .ok (.ret (.bool true)) ∧ OldK s₁.heap s'.heap ∧ s'.os = s₁.os ∧ AllBare s'.gens) s₁ := by
  have rv := vals_ints hi
  have lenV := hi.length
  -- from an abstract heap in which nothing but the script may be tracked
  have core : ∀ H : Hp, Only H → SqL K H a (ns.map V.int) → HOk P w H s₁.heap → (∀ b, H b ≠ none → b = a) → (H a ≠ none → K.lookup a = none) →
      codeAny (model P w) callerA (.call (.ref fa) ⟨[.ref a], []⟩) (fun r s' => r = .ok (.ret (.bool true)) ∧ OldK s₁.heap s'.heap ∧ s'.os = s₁.os ∧ AllBare s'.gens) s₁ := by
    intro H hO hS hok hA hK
    have base_of : ∀ {b : Addr} {o : Obj}, s₁.heap.get? b = some o → H b = none → (hidT s₁.heap H).get? b = some o := fun e n => hidT_get e n
    have noA : ∀ {b : Addr} {o : Obj} {es : Array DictEntry} {ep : Nat}, s₁.heap.get? b = some o → o.data = .dict es ep → H b = none := fun {b o es ep} e d => by
      cases q : H b with
      | none => rfl
      | some u =>
        have e' : b = a := hA b (by rw [q]; simp)
        subst e'
        rw [ha] at e; cases e
        have d' : Data.seq vs.toArray _ = Data.dict es ep := d
        cases d'
    have nsK : ∀ {b : Addr} {m : Str → Option Value}, s₁.heap.Ns b m → (hidT s₁.heap H).Ns b m := fun {b m} ⟨o, es, ep, e, d, r⟩ => ⟨o, es, ep, base_of e (noA e d), d, r⟩
    have hKb : K.In (hidT s₁.heap H) := fun b o e => base_of (KX b o e) (by
      cases q : H b with
      | none => rfl
      | some u =>
        have e' : b = a := hA b (by rw [q]; simp)
        subst e'
        rw [hK (by rw [q]; simp)] at e; cases e)
    have hM : Mod K mg (hidT s₁.heap H) := ⟨hKb, nsK hns, ⟨mb, nsK hb, hbb⟩, let ⟨mc, h1, h2⟩ := hlim; ⟨mc, nsK h1, h2⟩⟩
    have e0 : Env0 P w K mg (hidT s₁.heap H) callerA [] s₁ H := ⟨rfl, hM, fun b o e => of_hidT e, Nat.le_of_eq (hidT_size _ _), trivial, fun b hb => absurd (show b ∈ ([] : List Addr) from hb) (by simp), hok, .of_eq hg⟩
    refine codeAny_mono ((F _ hKb (nsK hns)).run callerA [] s₁ H ⟨[.ref a], []⟩ [.ref a] [.ref a] _ _ hr e0 (hbind s₁ (.ref a)) (.cons rfl .nil) (hsp H hO hS)) fun r s' h => ?_
    cases r with
    | error e => exact (hCX H e s' h).elim
    | ok fl =>
      cases fl with
      | next => exact False.elim h
      | brk => exact False.elim h
      | cont => exact False.elim h
      | ret u =>
        obtain ⟨v, H', os, bare, un, hok', r', q⟩ := h
        have q' : v = .bl true := q
        subst q'
        obtain rfl : u = Value.bool true := r'
        refine ⟨rfl, OldK.of_keep fun b o e => ?_, os, bare⟩
        cases q : H b with
        | none => exact un.keep b o e q (by intro z; exact absurd (show b ∈ ([] : List Addr) from z) (by simp)) (by simp)
        | some u =>
          rcases hO b with z | ⟨ob, xs, z⟩
          · rw [q] at z; cases z
          · have z2 := un.frzs b ob _ z
            obtain ⟨e1, _⟩ := hok b _ z
            obtain ⟨e2, _⟩ := hok' b _ z2
            rw [e] at e1; cases e1
            exact e2
  cases hk : K.lookup a with
  | some o =>
    -- the script is one of the module's own objects
    have e := KX a o hk
    rw [ha] at e
    cases e
    refine core (fun _ => none) (fun _ => .inl rfl) (.inr ⟨_, vs.toArray, _, hk, rfl, rfl, rfl, by rw [List.size_toArray, lenV]; exact hl, by simpa using rv⟩) (fun b u z => by have z' : (none : Option HO) = some u := z; cases z') (fun b z => absurd rfl z) fun z => absurd rfl z
  | none =>
    refine core (fun b => if b = a then some (.frz { cls := .type "list", data := .seq vs.toArray } (.lst (ns.map V.int))) else none) (fun b => ?_) (.inl (.inr ⟨{ cls := .type "list", data := .seq vs.toArray }, if_pos rfl⟩)) (fun b u z => ?_) (fun b z => ?_) fun _ => hk
    · by_cases hb : b = a
      · exact .inr ⟨_, _, if_pos hb⟩
      · exact .inl (if_neg hb)
    · by_cases hb : b = a
      · have z' := (if_pos hb).symm.trans z
        cases z'
        subst hb
        exact ⟨ha, by rw [List.length_map]; exact hl, vs, _, rv, ha⟩
      · have z' := (if_neg hb).symm.trans z
        cases z'
    · by_cases hb : b = a
      · exact hb
      · exact absurd (if_neg hb) z
end L2
namespace L2
open PySem PySem.Spec PyProof.Rows
theorem walk_of {l : PySem.W.OpenLaw} {n k : Nat} {q : Program} {loose : List Str} {XP : (Str → Option Value) → Heap → Prop} {YP : World → Heap → Prop} {d : DefRec} {K : Params → PySem.W.Frag} {CX : World → CXT} {sp : World → Sp} {x : Str}
    (hn : l.most = some n) (hn2 : n ≤ sizeLine) (hdf : d.params.defaults = []) (hr : Room k callerA)
    (hY : ∀ (w : World) (h : Heap), YP w h → (K w.params).In h)
    (F : ∀ (w : World) (mg : Str → Option Value) (fa : Addr) (h : Heap), (K w.params).In h → h.Ns mainGlobals mg → mg d.name = some (.ref fa) →
      ∃ fd : FuncData, (∀ (s : Shared) (u : Value), BindsTo s fd ⟨[u], []⟩ [(x, u)]) ∧
        ∀ base : Heap, (K w.params).In base → base.Ns mainGlobals mg → FnOk l.prog w (K w.params) mg base (CX w) k fa fd [x] (sp w))
    (hsp : ∀ (w : World) (H : Hp) (a : Addr) (ns : List Int), ns.length ≤ n → Only H → SqL (K w.params) H a (ns.map V.int) → sp w [.ref a] H (fun v _ => v = .bl true) fun _ _ _ => False)
    (hCX : ∀ (w : World) (H : Hp) (s : Shared) (e : Value) (s' : Shared), CX w [] H s (fun _ _ _ => False) e s' → False) :
    PySem.W.WalkO q loose XP YP l.row.toRowW d [] (fun f vs => PySem.call f vs) := by
  refine Att.attach_call hn hdf fun w s₀ s₁ mg mb fa o pm cd doc a vs ns G Y ho hd hcd hmg hobj hints hlen hg => ?_
  have KX := hY w _ Y
  obtain ⟨fd, hb, hF⟩ := F w mg fa _ KX G.T.g hmg
  exact law_call KX G.T.g G.T.b G.T.builtins G.T.nolimit hg hobj hints (Nat.le_trans hlen hn2) hr hF hb (fun H hO hS => hsp w H a ns hlen hO hS) fun H e s' => hCX w H s₁ e s'
end L2
namespace L2
open PySem PySem.Spec PyProof.Rows
def inClass (s : Stmt) (j : Nat) : Stmt := match s with
  | .ClassDef _ _ _ body _ _ _ _ _ _ _ => body.getD j (.Pass ⟨0, 0, 0, 0⟩)
  | _ => .Pass ⟨0, 0, 0, 0⟩
def defArgs (s : Stmt) : Arguments := match s with
  | .FunctionDef _ a _ _ _ _ _ _ _ _ => a
  | _ => { posonlyargs := [], args := [], vararg := none, kwonlyargs := [], kw_defaults := [], kwarg := none, defaults := [] }
def defBody (s : Stmt) : List Stmt := match s with
  | .FunctionDef _ _ b _ _ _ _ _ _ _ => b
  | _ => []
def defScope (s : Stmt) : Scope := match s with
  | .FunctionDef _ _ _ _ _ _ sc _ _ _ => sc
  | _ => { kind := .function, names := [], isGenerator := false, isCoroutine := false }
abbrev CX0 : CXT := fun _ _ _ _ _ _ => False
abbrev E0 : XK := fun _ _ _ => False
theorem pass0 {X : Cx} : Passes CX0 X E0 := fun _ _ _ _ _ _ _ h => h.elim
structure Fun (K : PySem.W.Frag) (x qual : Str) (st : Stmt) (f : Addr) (fd : FuncData) : Prop where
  ex : ∃ (oc : Value) (od : Option Addr) (kV doc pm : Value) (an : Option Addr) (cdv ct : Value) (osl : Array (Option Value)),
    fd = PySem.W.fnOf x qual (defArgs st) (defBody st) (defScope st) .none kV doc pm an cdv ct ∧ K.lookup f = some ⟨oc, od, .func fd, osl⟩ ∧ PySem.W.codeIn K cdv qual = true
  kp : PySem.W.keepIn K (.ref f) = true
section
variable {P : Program} {w : World} {K : PySem.W.Frag} {mg : Str → Option Value} {base : Heap}
theorem Fun.ok {x qual : Str} {st : Stmt} {f : Addr} {fd : FuncData} {N ps : List Str} {k : Nat} {sp : Sp} (F : Fun K x qual st f fd) (S : FnScope N ps (defScope st)) (len : ∀ vs H Q E, sp vs H Q E → vs.length = ps.length)
    (hbody : ∀ (cdv : Value) (A : Around) (outer : List Env) (s : Shared) (H : Hp) (vs : List V) (Q : VK) (E : XK), Room k (A.deeper (envOfC qual (defScope st) s.heap.objs.size f cdv)) → sp vs H Q E →
      ∃ t, PSs (cxOf CX0 P w K mg base N qual (defScope st) f cdv A outer s H E).nox (defBody st) t ∧ t { nx := fun _ H' => Q .non H', rt := Q } (start N vs) H) : FnOk P w K mg base CX0 (k + 1) f fd ps sp := by
  obtain ⟨oc, od, kV, doc, pm, an, cdv, ct, osl, rfl, lk, hcd⟩ := F.ex
  refine fn_of lk hcd S len fun A outer s H vs Q E hr hsp => ?_
  obtain ⟨t, h, q⟩ := hbody cdv A outer s H vs Q E hr hsp
  exact ⟨t, h.nox, q⟩
theorem Fun.binds {x qual : Str} {st : Stmt} {f : Addr} {fd : FuncData} {ps : List Str} (F : Fun K x qual st f fd)
    (h : ∀ (kV doc pm : Value) (an : Option Addr) (cdv ct : Value) (us : List Value), us.length = ps.length → bindArgs (PySem.W.fnOf x qual (defArgs st) (defBody st) (defScope st) .none kV doc pm an cdv ct) ⟨us, []⟩ = pure (ps.zip us)) : Binds K fd ps [] := by
  obtain ⟨oc, od, kV, doc, pm, an, cdv, ct, osl, rfl, lk, hcd⟩ := F.ex
  exact .all (h kV doc pm an cdv ct)
theorem fun_mk {x qual : Str} {st : Stmt} {f : Addr} {oc : Value} {od an : Option Addr} {osl : Array (Option Value)} {kV doc pm cdv ct : Value} (l : K.lookup f = some ⟨oc, od, .func (PySem.W.fnOf x qual (defArgs st) (defBody st) (defScope st) .none kV doc pm an cdv ct), osl⟩)
    (c : PySem.W.codeIn K cdv qual = true) (k : PySem.W.keepIn K (.ref f) = true) : Fun K x qual st f (PySem.W.fnOf x qual (defArgs st) (defBody st) (defScope st) .none kV doc pm an cdv ct) := ⟨⟨oc, od, kV, doc, pm, an, cdv, ct, osl, rfl, l, c⟩, k⟩
end
theorem hu_of {A : Around} {k : Nat} (hr : Room k A) : A.units + 1 < cLine := Nat.lt_of_le_of_lt (Nat.add_le_add_left (by decide : 1 ≤ 64) _) hr.units
theorem small1000 {n : Nat} (h : n ≤ 1000) : n < sizeLine := Nat.lt_of_le_of_lt h (by decide)
section
variable {X : Cx}
theorem pv (i : Nat) {x : Str} {pos : Pos} (hN : X.N[i]? = some x := by rfl) (hv : Vis X.env.scope x := by first | exact Or.inl rfl | exact Or.inr (Or.inl rfl) | exact Or.inr (Or.inr rfl)) (hd : (x == ("__debug__" : Str)) = false := by decide)
    (hcd : (x == ("__classdict__" : Str)) = false := by decide) : PE X (.Name x pos) (tVar i) := pe_var hN hv hd hcd
end
theorem iteF {A B : Prop} (h : B) : if false = true then A else B := by
  rw [if_neg Bool.false_ne_true]
  exact h
theorem iteT {A B : Prop} (h : A) : if true = true then A else B := by
  rw [if_pos rfl]
  exact h
theorem ite2 {c A B : Prop} [Decidable c] (h1 : c → A) (h2 : ¬ c → B) : if c then A else B := by
  by_cases h : c
  · rw [if_pos h]
    exact h1 h
  · rw [if_neg h]
    exact h2 h
def Same (H H' : Hp) : Prop := ∀ b o, H b = some o → H' b = some o
theorem Same.refl (H : Hp) : Same H H := fun _ _ h => h
theorem Same.trans {H H1 H2 : Hp} (a : Same H H1) (b : Same H1 H2) : Same H H2 := fun c o h => b c o (a c o h)
theorem Same.free {H H' : Hp} (e : Same H H') {l : Addr} (h : H' l = Option.none) : H l = Option.none := by
  cases q : H l with
  | none => rfl
  | some o =>
    rw [e l o q] at h
    cases h
theorem Same.seq {K : PySem.W.Frag} {H H' : Hp} {a : Addr} {xs : List V} (e : Same H H') (h : SqL K H a xs) : SqL K H' a xs := by
  rcases h with (h | ⟨o, h⟩) | h
  · exact .inl (.inl (e _ _ h))
  · exact .inl (.inr ⟨o, e _ _ h⟩)
  · exact .inr h
theorem at_of {xs : List V} {z : Int} {j : Nat} {v : V} (e : z = (j : Int)) (h : xs[j]? = some v) : atI xs z = some v := by
  rw [e]
  exact atI_nat h
theorem nd_ix {α : Type} {l : List α} (hN : l.Nodup) {i j : Nat} {x : α} (a : l[i]? = some x) (b : l[j]? = some x) : i = j := by
  obtain ⟨h1, e1⟩ := List.getElem?_eq_some_iff.mp a
  obtain ⟨h2, e2⟩ := List.getElem?_eq_some_iff.mp b
  exact (List.getElem_inj hN).mp (e1.trans e2.symm)
theorem Same.made {H H1 : Hp} {x dx C : Addr} (nx : H x = Option.none) (nd : H dx = Option.none) (k : ∀ b o, (upd (upd H dx (.own x)) x (.ins C dx [])) b = some o → b ≠ x → H1 b = some o) : Same H H1 := fun b o e =>
  k b o (by rw [upd_ne (ne_of_none e nx), upd_ne (ne_of_none e nd)]; exact e) (ne_of_none e nx)
end L2
namespace L2
open PySem PySem.Spec PyProof.Rows
mutual
theorem Dp.noDict {K : PySem.W.Frag} {H : Hp} : ∀ (d : PyData) (v : V), Dp K H v d → d.hasDict = false
  | .none, _, _ => by simp only [PyData.hasDict]
  | .bool _, _, _ => by simp only [PyData.hasDict]
  | .int _, _, _ => by simp only [PyData.hasDict]
  | .str _, _, _ => by simp only [PyData.hasDict]
  | .list ds, _, h => by
    cases h with
    | lst hs ha => simp only [PyData.hasDict]; exact DpAll.noDict ds _ ha
  | .tuple ds, _, h => by
    cases h with
    | tup hs ha => simp only [PyData.hasDict]; exact DpAll.noDict ds _ ha
  | .dict _, _, h => by cases h
theorem DpAll.noDict {K : PySem.W.Frag} {H : Hp} : ∀ (ds : List PyData) (vs : List V), DpAll K H vs ds → PyData.hasDictAll ds = false
  | [], _, _ => by simp only [PyData.hasDictAll]
  | d :: ds, _, h => by
    cases h with
    | cons h1 h2 => simp only [PyData.hasDictAll, Dp.noDict d _ h1, DpAll.noDict ds _ h2, Bool.or_self]
end
structure Shown (d : PyData) : Prop where
  sh : d.showable = true
  dp : d.depth ≤ 16
  lf : d.leavesShort 1922 = true
  wt : d.weight ≤ 8000
theorem Shown.fits {d : PyData} (h : Shown d) : d.shown.length ≤ sizeLine := by
  have := PyData.shown_le 1922 (by decide) d h.lf
  have := h.wt
  rw [sizeLine_eq]
  omega
theorem dpInts {K : PySem.W.Frag} {H : Hp} : ∀ ns : List Int, DpAll K H (ns.map V.int) (ns.map PyData.int)
  | [] => .nil
  | n :: ns => .cons (.int n) (dpInts ns)
theorem paired_by {α β : Type} {F : α → β → Prop} : ∀ {l₁ : List α} {l₂ : List β}, l₁.length = l₂.length → (∀ (i : Nat) x y, l₁[i]? = some x → l₂[i]? = some y → F x y) → Paired F l₁ l₂
  | [], [], _, _ => .nil
  | [], _ :: _, h, _ => by simp at h
  | _ :: _, [], h, _ => by simp at h
  | a :: r, b :: t, h, f => .cons (f 0 a b rfl rfl) (paired_by (by simpa using h) fun i x y e1 e2 => f (i + 1) x y (by simpa using e1) (by simpa using e2))
theorem items_upTo {acc : Array Value} {n : Nat} (h : ItemsOf (fun i v => ∃ t, v = Value.int ((0 : Int) + (i : Nat) * 1) t) acc n) : Vals ((Nm.upTo n).map V.int) acc.toList := by
  obtain ⟨hs, hi⟩ := h
  refine paired_by (by simp [Nm.upTo, hs]) fun i x y hx hy => ?_
  obtain ⟨t, rfl⟩ := hi i y (by simpa using hy)
  simp only [Nm.upTo, List.map_map, List.getElem?_map] at hx
  have hlt : i < n := by
    by_cases q : i < n
    · exact q
    · rw [List.getElem?_eq_none (by simp; omega)] at hx; cases hx
  rw [List.getElem?_eq_getElem (by simpa using hlt)] at hx
  simp only [Option.map_some, List.getElem_range, Function.comp] at hx
  cases hx
  exact ⟨t, by simp⟩
section
variable {X : Cx}
theorem cr_range1 : CallR X (.type "range") (fun vs H Q => ∃ j : Int, vs = [.int j] ∧ ∀ p, H p = none → Q (.ref p) (upd H p (.rng 0 j))) := by
  intro pins s σ H vs us Q I r h
  obtain ⟨j, rfl, q⟩ := h
  obtain ⟨u, rfl, t, rfl⟩ := vals1 r
  refine call_range_1 ⟨.ref s.heap.objs.size, _, I.laid (fun b o e => Heap.get?_push_of_some _ e) (Nat.le_refl _) ?_, rfl, q _ (I.hok.fresh (Nat.le_refl _))⟩
  exact ⟨_, _, _, Heap.get?_push_size _ rfl⟩
theorem range_small {j : Int} (h0 : 0 ≤ j) (h1 : j < 2 ^ 20) : Builtin.Range.small 0 j 1 = true ∧ Builtin.Range.rangeSize 0 j 1 = (j.toNat : Nat) := by
  refine ⟨?_, ?_⟩
  · exact small_one (by decide) (by decide) (by omega) (by omega)
  · rw [rangeSize_one]; split <;> omega
theorem cr_list_rng (hc : X.A.handled = none) : CallR X (.type "list") (fun vs H Q => ∃ a j, vs = [.ref a] ∧ H a = some (.rng 0 j) ∧ 0 ≤ j ∧ j < 2 ^ 20 ∧ ∀ p, H p = none → Q (.ref p) (upd H p (.lst ((Nm.upTo j.toNat).map V.int)))) := by
  intro pins s σ H vs us Q I r h
  obtain ⟨a, j, rfl, ha, h0, h1, q⟩ := h
  rw [Vals.ref1 r]
  obtain ⟨t, u, v, e⟩ := (show ObjOk X.prog X.w H s.heap a (.rng 0 j) from I.hok a _ ha)
  obtain ⟨s1, s2⟩ := range_small h0 h1
  refine call_list_range hc e s1 s2 (by omega) fun h' tk acc' c' hk hS hacc => ?_
  exact ⟨.ref s.heap.objs.size, _, I.laid (t' := tk) hk (Nat.le_refl _) (show ObjOk X.prog X.w _ h' _ (.lst _) from ⟨by rw [List.length_map, Nm.upTo_length, sizeLine_eq]; omega, acc'.toList, c', items_upTo hacc, by simpa using hS⟩), rfl, q _ (I.hok.fresh (Nat.le_refl _))⟩
end
section
variable {X : Cx}
def gLst (K : PySem.W.Frag) (n : Nat) (t : TGs) : TG := fun v σ H Q => ∃ a xs, v = .ref a ∧ SqL K H a xs ∧ xs.length = n ∧ t xs σ H Q
theorem pg_lst {es : List Expr} {k : Nat} {t : TGs} {n : Nat} {pos : Pos} (hc : X.calm = true) (h : PGs X es t)
    (hn : (assignEach es X.env).length = n := by rfl) (hst : (assignEach es X.env).findIdx? (·.1) = none := by rfl) : PG X (.Tuple es k pos) (gLst X.K n t) := by
  intro pins s σ H v u Q I r hw
  obtain ⟨a, xs, e1, hq, hl, hw⟩ := hw
  subst e1
  cases r
  obtain ⟨its, rv, ht, hz⟩ := I.list hq
  rw [assign_Tuple]
  refine wpAny_bind (wpAny_standAt ?_)
  unfold unpack
  have e2 : (assignEach es X.env).length = its.toArray.size := by simp [hn, ← hl, rv.length]
  rw [hst, e2]
  refine wpAny_bind (wpAny_holding (PySem.W.kun_itemsOf (I.ok.hd hc) ht.isList fun h' hx => ?_))
  have I1 : Inv X pins σ H { s with heap := h' } := I.kept (t' := s.toks) fun b o e => hx b o (Nat.ne_of_lt (Heap.lt_size e)) e
  exact h pins _ σ H xs _ Q I1 (by simpa using rv) hw
end
section
variable {prog : Program} {w : World} {A : Around} {E : Value → Shared → Prop} {s : Shared}
theorem tuple_index_tree {t : Addr} {items : Array Value} {x : Value} {e : Value → Bool} {j : Nat} {P : Fin → Shared → Prop} (ht : IsTup s.heap t items) (hj : j < items.size)
    (hit : e items[j] = true) (hno : ∀ m (hm : m < items.size), m < j → e items[m] = false) (he : ∀ y, y ∈ items → SeqAt.EqAt A s y x (e y))
    (h : P (.done (.ret (.int j s.toks))) { s with toks := s.toks + 1 }) : wpAny (model prog w) A (Builtin.«tuple.index» ⟨[.ref t, x], []⟩) P E s := by
  show wpAny _ _ (Builtin.Tuple.tupleItemsOf (.ref t) >>= _) _ _ s
  refine wpAny_bind (tupleItemsOf_ ht ?_)
  show wpAny _ _ (forIn (m := Sem) [0:min items.size items.size] _ _ >>= _) _ _ s
  rw [Nat.min_self, Std.Legacy.Range.forIn_eq_forIn_range']
  have hr : List.range' [:items.size].start [:items.size].size [:items.size].step = List.range' 0 items.size 1 := by
    show List.range' 0 ((items.size - 0 + 1 - 1) / 1) 1 = _
    rw [Nat.div_one]
    congr 1
  rw [hr]
  refine wpAny_bind (wpAny_forIn_list _ (fun rest b s' => b.1 = none ∧ s' = s ∧ ∃ i, i ≤ j ∧ rest = List.range' i (items.size - i) 1) _ ?_ ?_ _ _ ⟨rfl, rfl, 0, Nat.zero_le _, by simp⟩)
  · rintro y rest b s' ⟨hb, rfl, i, hi, hrest⟩
    have hlt : i < items.size := by omega
    obtain ⟨k, hk⟩ : ∃ k, items.size - i = k + 1 := ⟨items.size - i - 1, by omega⟩
    rw [hk, List.range'_succ] at hrest
    obtain ⟨rfl, rfl⟩ := List.cons.inj hrest
    have hg : items[y]? = some items[y] := by simp [hlt]
    rw [hg]
    refine wpAny_bind (he _ (Array.getElem_mem hlt) _ _ _ _ ?_)
    by_cases hij : y = j
    · subst hij
      rw [hit]
      refine wpAny_bind ?_
      show wpAny _ _ (retInt (y : Int)) _ _ _
      wp_walk
      exact h
    · rw [hno y hlt (by omega)]
      exact wpAny_pure ⟨rfl, rfl, y + 1, by omega, by rw [show items.size - (y + 1) = k by omega]⟩
  · rintro ⟨b1, b2⟩ s' ⟨hb, rfl, i, hi, hrest⟩
    have : (List.range' i (items.size - i) 1).length = 0 := by rw [← hrest]; rfl
    rw [List.length_range'] at this
    omega
end
section
variable {X : Cx}
def rTIndex : V → List V → Hp → VK → Prop := fun x xs H Q => ∃ (a : Addr) (ys : List V) (y : V) (j : Nat) (z : V), x = V.ref a ∧ xs = [y] ∧ H a = some (.tup ys) ∧ flatV y = true ∧ ys.all flatV = true ∧ ys[j]? = some z ∧ eqV z y = true ∧
  (∀ (m : Nat) (z' : V), m < j → ys[m]? = some z' → eqV z' y = false) ∧ Q (.int (j : Nat)) H
theorem mt_tindex : MtR X "tuple.index" rTIndex := by
  intro pins s σ H x xs v us Q I rx rxs h
  obtain ⟨a, ys, y, j, z, rfl, rfl, hs, fy, fys, hz, hzj, hno, q⟩ := h
  cases rx
  cases rxs with
  | cons ry rt =>
    rename_i uy ut
    cases rt
    obtain ⟨its, rv, ht, hlen⟩ := I.tuple (SqT.of hs)
    obtain ⟨u, hu, ru⟩ := rv.get hz
    obtain ⟨hjl, hje⟩ := List.getElem?_eq_some_iff.mp hu
    have hvl := rv.length
    have hj : j < its.toArray.size := by simpa using hjl
    refine wpAny_call_entry PySem.F.slot_tuple_index ht.typeIs PySem.F.entry_tuple_index (tuple_index_tree (e := eqU y) (j := j) ht hj ?_ ?_ (fun u' hu' => mem_eqAt ry fy rv fys u' (by simpa using hu')) ?_) (PySem.F.args_tuple_index_2 _ _)
    · have e1 : its.toArray[j] = u := by simpa using hje
      rw [e1, eqU_of ru (flat_at fys hz)]
      exact hzj
    · intro m hm hmj
      have hml : m < its.length := by simpa using hm
      have hmy : m < ys.length := by omega
      have hy' : ys[m]? = some ys[m] := List.getElem?_eq_getElem hmy
      obtain ⟨u2, hu2, ru2⟩ := rv.get hy'
      obtain ⟨_, hme⟩ := List.getElem?_eq_some_iff.mp hu2
      have e1 : its.toArray[m] = u2 := by simpa using hme
      rw [e1, eqU_of ru2 (flat_at fys hy')]
      exact hno m _ hmj hy'
    · exact ⟨_, rfl, .int (j : Nat), H, I.tok _, ⟨_, rfl⟩, q⟩
end
theorem Same.new {H : Hp} {p : Addr} {o : HO} (h : H p = none) : Same H (upd H p o) := fun b u e => by
  rw [upd_ne (ne_of_none e h)]; exact e
theorem Same.step {H H' : Hp} {p : Addr} {o : HO} (s : Same H H') (h : H' p = none) : Same H (upd H' p o) := s.trans (Same.new h)
def Keep (ex : List Addr) (H H' : Hp) : Prop := ∀ b o, H b = some o → b ∉ ex → H' b = some o
theorem Keep.refl (ex : List Addr) (H : Hp) : Keep ex H H := fun _ _ h _ => h
theorem Keep.trans {ex : List Addr} {H H1 H2 : Hp} (a : Keep ex H H1) (b : Keep ex H1 H2) : Keep ex H H2 := fun c o h n => b c o (a c o h n) n
theorem Same.keep {ex : List Addr} {H H' : Hp} (s : Same H H') : Keep ex H H' := fun b o h _ => s b o h
theorem Keep.new {ex : List Addr} {H H' : Hp} {p : Addr} {o : HO} (s : Keep ex H H') (h : H' p = none) : Keep ex H (upd H' p o) := s.trans (Same.new h).keep
theorem Keep.set {ex : List Addr} {H H' : Hp} {p : Addr} {o : HO} (s : Keep ex H H') (h : p ∈ ex) : Keep ex H (upd H' p o) := fun b u e n => by
  rw [upd_ne (show b ≠ p from fun z => n (by rw [z]; exact h))]; exact s b u e n
theorem Keep.setNew {ex : List Addr} {H H' : Hp} {p : Addr} {o : HO} (s : Keep ex H H') (h : H p = none) : Keep ex H (upd H' p o) := fun b u e n => by
  rw [upd_ne (ne_of_none e h)]; exact s b u e n
theorem seqIx {t : Int} {n : Nat} (h0 : 0 ≤ t) (h1 : t < n) : seqIndex? t n = some t.toNat := by
  unfold seqIndex?
  have e : (if t < 0 then t + (n:Int) else t) = t := if_neg (by omega)
  simp only [e]
  rw [if_pos (by simp [h0, h1])]
theorem map_erase {α β : Type} (f : α → β) : ∀ (l : List α) (k : Nat), (l.map f).eraseIdx k = (l.eraseIdx k).map f
  | [], _ => rfl
  | _ :: _, 0 => rfl
  | a :: l, k + 1 => by simp only [List.map_cons, List.eraseIdx_cons_succ, map_erase f l k]
theorem perm_erase {α : Type} : ∀ (l : List α) (k : Nat) (h : k < l.length), (l[k] :: l.eraseIdx k).Perm l
  | [], _, h => by simp at h
  | _ :: _, 0, _ => List.Perm.refl _
  | a :: l, k + 1, h => by
    simp only [List.getElem_cons_succ, List.eraseIdx_cons_succ]
    exact (List.Perm.swap _ _ _).trans (List.Perm.cons _ (perm_erase l k (by simpa using h)))
theorem log64 {n : Nat} (h : n < 2 ^ 64) : n.log2 < 64 := by
  by_cases e : n = 0
  · subst e; decide
  · exact (Nat.log2_lt e).mpr h
theorem Keep.same {H H' : Hp} (s : Keep [] H H') : Same H H' := fun b o h => s b o h (by simp)
theorem Keep.mono {ex ex' : List Addr} {H H' : Hp} (s : Keep ex H H') (h : ∀ b ∈ ex, b ∈ ex') : Keep ex' H H' := fun b o e n => s b o e fun m => n (h b m)
structure Fn (P : Program) (w : World) (K : PySem.W.Frag) (mg : Str → Option Value) (base : Heap) (x : Str) (k : Nat) (ps : List Str) (sp : Sp) : Prop where
  ex : ∃ (f : Addr) (fd : FuncData), mg x = some (.ref f) ∧ PySem.W.keepIn K (.ref f) = true ∧ Binds K fd ps [] ∧ FnOk P w K mg base CX0 k f fd ps sp
section
variable {X : Cx} {k j : Nat} {x : Str} {ps : List Str} {sp : Sp} {e : Expr} {es : List Expr} {t : TA} {p pos : Pos}
theorem pe_fn (F : Fn X.prog X.w X.K X.mg X.base x k ps sp) (hr : Room j X.A) (ha : PA X (e :: es) t) (hk : k ≤ j := by decide) (hg : Gl X x := by rfl) (hdb : (x == ("__debug__" : Str)) = false := by decide)
    (he : starEach (e :: es) X.env = (false, eval e X.env) :: starEach es X.env := by rfl) (hpl : (backTo pos (starEach es X.env)).any (·.1) = false := by rfl) :
    PE X (.Call (.Name x p) (e :: es) [] pos) (tCall sp [] E0 t) := by
  obtain ⟨f, fd, h1, h2, h3, h4⟩ := F.ex
  exact pe_call h4 (hr.mono hk) hg h1 h2 h3 .nil pass0 ha hdb he hpl
end
section
variable {X : Cx} {K : PySem.W.Frag}
theorem ix_listK (hK : X.K = K := by rfl) : IxR X (rIxL K) := by subst hK; exact ix_list
theorem ix_tupK (hK : X.K = K := by rfl) : IxR X (rIxT K) := by subst hK; exact ix_tup
theorem sl_listK (hK : X.K = K := by rfl) : SlR X (rSlL K) := by subst hK; exact sl_list
theorem call_lenK (hK : X.K = K := by rfl) : CallR X (.builtin "len") (fun xs H Q => ∃ p ys, xs = [.ref p] ∧ (SqL K H p ys ∨ SqT K H p ys) ∧ Q (.int ys.length) H) := by subst hK; exact call_len_seq
theorem call_listK (hK : X.K = K := by rfl) : CallR X (.type "list") (fun xs H Q => ∃ p ys, xs = [.ref p] ∧ (SqL K H p ys ∨ SqT K H p ys) ∧ ∀ l, H l = none → Q (.ref l) (upd H l (.lst ys))) := by subst hK; exact call_list_of
theorem call_tupleK (hK : X.K = K := by rfl) : CallR X (.type "tuple") (fun xs H Q => ∃ p ys, xs = [.ref p] ∧ ((SqL K H p ys ∧ ∀ l, H l = none → Q (.ref l) (upd H l (.tup ys))) ∨ (SqT K H p ys ∧ Q (.ref p) H))) := by subst hK; exact call_tuple_of
theorem op_eqDK (hu : X.A.units + 64 < cLine) (hK : X.K = K := by rfl) : OpR X (compareOp .Eq) (rEqD K) := by subst hK; exact op_eqD hu
theorem op_inK (hK : X.K = K := by rfl) : OpR X (compareOp .In) (rIn K false) := by subst hK; exact op_in_seq
theorem op_notInK (hK : X.K = K := by rfl) : OpR X (compareOp .NotIn) (rIn K true) := by subst hK; exact op_notIn_seq
theorem pg_tupK {es : List Expr} {k : Nat} {t : TGs} {n : Nat} {pos : Pos} (hc : X.calm = true) (h : PGs X es t)
    (hn : (assignEach es X.env).length = n := by rfl) (hst : (assignEach es X.env).findIdx? (·.1) = none := by rfl) (hK : X.K = K := by rfl) : PG X (.Tuple es k pos) (gTup K n t) := by subst hK; exact pg_tup hc h hn hst
theorem pg_lstK {es : List Expr} {k : Nat} {t : TGs} {n : Nat} {pos : Pos} (hc : X.calm = true) (h : PGs X es t)
    (hn : (assignEach es X.env).length = n := by rfl) (hst : (assignEach es X.env).findIdx? (·.1) = none := by rfl) (hK : X.K = K := by rfl) : PG X (.Tuple es k pos) (gLst K n t) := by subst hK; exact pg_lst hc h hn hst
variable {o e : Expr} {es : List Expr} {to : TE} {t : TA} {name : Str} {apos cpos : Pos} {T id : String} {r : V → List V → Hp → VK → Prop}
theorem pe_bmK (pa : PlainAttrs T) (slot : Slot T name id) (hty : typeOf (.builtin id) = pure (.type "method_descriptor")) (hm : MtR X id r) (ho : PE X o to) (ha : PA X (e :: es) t)
    (hbase : attributeBase o name X.env (eval o X.env) = eval o X.env := by rfl)
    (hfew : ((backTo cpos (starEach (e :: es) X.env)).all (fun x => !x.1) && (backToKw cpos (keywordEach [] X.env)).all (fun x => x.1.isSome)
      && decide ((e :: es).length + ([] : List Keyword).length + (if ([] : List Keyword).isEmpty then 0 else 1) < 30)) = true := by rfl)
    (hline : (apos.endLine == cpos.line) = true := by rfl) (hs : starEach (e :: es) X.env = (false, eval e X.env) :: starEach es X.env := by rfl) (hplain : (backTo cpos (starEach es X.env)).any (·.1) = false := by rfl) (hK : X.K = K := by rfl) :
    PE X (.Call (.Attribute o name apos) (e :: es) [] cpos) (tBM K T r to t) := by
  subst hK; exact pe_bm pa slot hty hm ho ha hbase hfew hline hs hplain
theorem pi_listK {tg l : Expr} {tl : TE} (h : PE X l tl) (hK : X.K = K := by rfl) : PI X tg l (iList K tl) := by subst hK; exact pi_list h
theorem pi_tupK {tg l : Expr} {tl : TE} (h : PE X l tl) (hK : X.K = K := by rfl) : PI X tg l (iTup K tl) := by subst hK; exact pi_tup h
end
end L2
namespace L2
open PySem PySem.Spec PyProof.Rows
section
variable {K : PySem.W.Frag}
theorem kit_ne {a b : String} {v : Bool} (h1 : (Value.type a == Value.type b) = false) (h2 : PySem.W.kitMeta b = true) (h3 : (fastBuiltinMro a).map (·.contains (.type b)) = some v) : PySem.W.kitOne K (.type a) (.type b) = some v := by
  unfold PySem.W.kitOne
  rw [h1, if_neg Bool.false_ne_true]
  show (if PySem.W.kitMeta b = true then _ else _) = _
  rw [if_pos h2]
  exact h3
theorem kit_eq {a : String} : PySem.W.kitOne K (.type a) (.type a) = some true := by
  unfold PySem.W.kitOne
  rw [if_pos (by simp)]
inductive Kd where
  | non | bl | int | str | lst | tup | dct
  deriving DecidableEq
def Kd.name : Kd → String
  | .non => "NoneType" | .bl => "bool" | .int => "int" | .str => "str" | .lst => "list" | .tup => "tuple" | .dct => "dict"
def Kd.is (a b : Kd) : Bool := decide (a = b) || (decide (a = .bl) && decide (b = .int))
theorem kit_kd (a b : Kd) : PySem.W.kitOne K (.type a.name) (.type b.name) = some (a.is b) := by
  cases a <;> cases b <;> first
    | exact kit_eq
    | exact kit_ne (by decide +kernel) (by decide +kernel) (by decide +kernel)
def kdOf (H : Hp) : V → Option Kd
  | .non => some .non
  | .bl _ => some .bl
  | .int _ => some .int
  | .str _ => some .str
  | .ref a => match H a with
    | some (.lst _) => some .lst
    | some (.frz _ (.lst _)) => some .lst
    | some (.tup _) => some .tup
    | some (.dK _) => some .dct
    | some (.dT _) => some .dct
    | _ => none
  | _ => none
theorem kd_ty {H : Hp} {x : V} {k : Kd} (h : kdOf H x = some k) : TyOf K H x (.type k.name) := by
  cases x with
  | non => cases h; exact .non
  | bl b => cases h; exact .bl b
  | int i => cases h; exact .int i
  | str z => cases h; exact .str z
  | byt _ => cases h
  | flt _ => cases h
  | ty _ => cases h
  | ref a =>
    unfold kdOf at h
    simp only at h
    split at h
    · rename_i e; cases h; exact .lst e
    · rename_i e; cases h; exact .frz e
    · rename_i e; cases h; exact .tup e
    · rename_i e; cases h; exact .dK e
    · rename_i e; cases h; exact .dT e
    · cases h
end
section
variable {X : Cx}
def rIsi : List V → Hp → VK → Prop := fun vs H Q => ∃ x k c, vs = [x, .ty (Kd.name c)] ∧ kdOf H x = some k ∧ Q (.bl (k.is c)) H
theorem cr_isi : CallR X (.builtin "isinstance") rIsi := by
  intro pins s σ H vs us Q I r h
  obtain ⟨x, k, c, rfl, hk, q⟩ := h
  obtain ⟨u, w', rfl, ru, rw'⟩ := vals2 r
  cases (show w' = Value.type c.name from rw')
  exact isinst_ok I ru (kd_ty (K := X.K) hk) (kit_kd k c) fun tk => ⟨.bl _, H, I.tok _, rfl, q⟩
def anyKd (k : Kd) (cs : List Kd) : Bool := cs.any fun c => k.is c
theorem kit_any {K : PySem.W.Frag} (k : Kd) : ∀ cs : List Kd, PySem.W.kitAny K (.type k.name) (cs.map fun c => Value.type (Kd.name c)) = some (anyKd k cs)
  | [] => rfl
  | c :: cs => by
    show (match PySem.W.kitOne K (.type k.name) (.type c.name) with | some true => some true | some false => PySem.W.kitAny K (.type k.name) (cs.map fun c => Value.type (Kd.name c)) | none => none) = _
    rw [kit_kd]
    unfold anyKd
    rw [List.any_cons]
    cases k.is c with
    | true => rfl
    | false => show PySem.W.kitAny K _ _ = _; rw [kit_any k cs]; rfl
def rIsiT : List V → Hp → VK → Prop := fun vs H Q => ∃ x p k cs, vs = [x, .ref p] ∧ H p = some (.tup (cs.map fun c => V.ty (Kd.name c))) ∧ kdOf H x = some k ∧ Q (.bl (anyKd k cs)) H
theorem vals_ty : ∀ {cs : List Kd} {us : List Value}, Vals (cs.map fun c => V.ty (Kd.name c)) us → us = cs.map fun c => Value.type (Kd.name c)
  | [], _, .nil => rfl
  | _ :: _, _, .cons r t => by
    cases (show _ = Value.type _ from r)
    rw [vals_ty t]; rfl
theorem cr_isiT : CallR X (.builtin "isinstance") rIsiT := by
  intro pins s σ H vs us Q I r h
  obtain ⟨x, p, k, cs, rfl, hp, hk, q⟩ := h
  obtain ⟨u, w', rfl, ru, rw'⟩ := vals2 r
  cases (show w' = Value.ref p from rw')
  obtain ⟨_, its, rv, o, e1, c1, d1, n, dd⟩ := (show ObjOk X.prog X.w H s.heap p (.tup _) from I.hok p _ hp)
  rw [vals_ty rv] at dd
  obtain ⟨oc, od, oD, osl⟩ := o
  simp only at c1 dd
  subst c1 dd
  have fin : ∀ tk, EP X pins σ Q (.bool (anyKd k cs)) { s with toks := tk } := fun tk => ⟨.bl _, H, I.tok _, rfl, q⟩
  have ty := kd_ty (K := X.K) hk
  generalize hkn : Value.type k.name = t at ty
  have ka : PySem.W.kitAny X.K t (cs.map fun c => Value.type (Kd.name c)) = some (anyKd k cs) := by rw [← hkn]; exact kit_any k cs
  cases ty with
  | non => cases (show u = Value.none from ru); exact PySem.W.kia_tup PySem.W.kitx_none I.kIn True.intro e1 ka (fun z => nomatch z) fin
  | bl y => cases (show u = Value.bool y from ru); exact PySem.W.kia_tup PySem.W.kitx_bool I.kIn True.intro e1 ka (fun z => nomatch z) fin
  | int i => obtain ⟨t, q⟩ := (show ∃ t, u = Value.int i t from ru); cases q; exact PySem.W.kia_tup PySem.W.kitx_int I.kIn True.intro e1 ka (fun z => nomatch z) fin
  | str y => obtain ⟨t, q⟩ := (show ∃ t, u = Value.str y t from ru); cases q; exact PySem.W.kia_tup PySem.W.kitx_str I.kIn True.intro e1 ka (fun z => nomatch z) fin
  | flt y => obtain ⟨t, q⟩ := (show ∃ t, u = Value.float y t from ru); cases q; exact PySem.W.kia_tup PySem.W.kitx_float I.kIn True.intro e1 ka (fun z => nomatch z) fin
  | @lst a xs ea =>
    cases (show u = Value.ref a from ru)
    obtain ⟨_, _, n, _, h1⟩ := (show ObjOk X.prog X.w H s.heap a (.lst xs) from I.hok a _ ea)
    exact PySem.W.kia_tup PySem.W.kitx_list I.kIn ⟨_, h1, rfl⟩ e1 ka (fun z => nomatch z) fin
  | @frz a ob xs ea =>
    cases (show u = Value.ref a from ru)
    obtain ⟨_, _, _, n, _, h1⟩ := (show ObjOk X.prog X.w H s.heap a (.frz ob (.lst xs)) from I.hok a _ ea)
    exact PySem.W.kia_tup PySem.W.kitx_list I.kIn ⟨_, h1, rfl⟩ e1 ka (fun z => nomatch z) fin
  | @tup a xs ea =>
    cases (show u = Value.ref a from ru)
    obtain ⟨_, _, _, p⟩ := (show ObjOk X.prog X.w H s.heap a (.tup xs) from I.hok a _ ea)
    obtain ⟨o, h1, h2, _⟩ := p
    exact PySem.W.kia_tup PySem.W.kitx_tuple I.kIn ⟨o, h1, h2⟩ e1 ka (fun z => nomatch z) fin
  | @dK a kvs ea =>
    cases (show u = Value.ref a from ru)
    obtain ⟨_, _, vs, _, p⟩ := (show ObjOk X.prog X.w H s.heap a (.dK kvs) from I.hok a _ ea)
    obtain ⟨o, es, ep, h1, h2, _⟩ := p
    exact PySem.W.kia_tup PySem.W.kitx_dict I.kIn ⟨o, h1, h2.1⟩ e1 ka (fun z => nomatch z) fin
  | @dT a kvs ea =>
    cases (show u = Value.ref a from ru)
    obtain ⟨_, _, xs, _, o, es, ep, h1, h2, _⟩ := (show ObjOk X.prog X.w H s.heap a (.dT kvs) from I.hok a _ ea)
    exact PySem.W.kia_tup PySem.W.kitx_dict I.kIn ⟨o, h1, h2.1⟩ e1 ka (fun z => nomatch z) fin
  | ins _ _ _ _ _ _ => cases hkn
end
section
variable {prog : Program} {w : World} {A : Around} {E : Value → Shared → Prop} {s : Shared}
theorem nextOf_tuple_item {it t : Addr} {i : Nat} {items} {x : Value} {Q : Value → Shared → Prop} (hit : IsTupIter s.heap it t i) (ht : IsTup s.heap t items) (hx : items[i]? = some x)
    (hQ : ∀ h', IsTupIter h' it t (i + 1) → Heap.SameBut it s.heap h' → Q x { s with heap := h' }) : wpAny (model prog w) A (Builtin.SmallTypes.nextOf (.ref it)) Q E s := by
  obtain ⟨o, ho, hc, hd⟩ := id hit
  obtain ⟨ol, hol, _, nl, hdl⟩ := ht
  unfold Builtin.SmallTypes.nextOf
  refine wpAny_bind (wpAny_callSpecial?_slot (name := Str.ofString "__next__") hit.typeIs slot_tupleiter_next (wpAny_call_entry slot_tupleiter_next hit.typeIs entry_tupleiter_next ?_ (args_tupleiter_next _)))
  show wpAny _ _ (field (.ref it) 0 >>= _) _ _ s
  refine wpAny_bind (wpAny_field ho hd (x := .ref t) rfl ?_)
  show wpAny _ _ (if (Value.ref t == Value.none) = true then _ else _) _ _ s
  rw [if_neg (show ¬ ((Value.ref t == Value.none) = true) from Bool.false_ne_true)]
  show wpAny _ _ (field (.ref it) 1 >>= _) _ _ s
  refine wpAny_bind (wpAny_field ho hd (x := .int i 0) rfl ?_)
  show wpAny _ _ (seqItems? (.ref t) >>= _) _ _ s
  refine wpAny_bind (wpAny_seqItems hol hdl ?_)
  simp only [Int.toNat_natCast, hx]
  refine wpAny_bind (wpAny_setField ho hd (by simp) (wpAny_pure ⟨x, rfl, wpAny_pure (hQ _ ?_ (Heap.SameBut.update ..))⟩))
  exact ⟨_, Heap.get?_update_self _ ho (Obj.isFreed_of_fields (Obj.data_mapFields hd _)), (Obj.cls_mapFields ..).trans hc, by rw [Obj.data_mapFields hd]; simp [rawInt]⟩
theorem nextOf_tuple_end {it t : Addr} {i : Nat} {items} {Q : Value → Shared → Prop} (hh : A.handled = none) (hit : IsTupIter s.heap it t i) (ht : IsTup s.heap t items) (hx : items[i]? = none)
    (hE : ∀ h' e, Heap.ExtBut it s.heap h' → (∃ o, h'.get? e = some o ∧ o.cls = .type "StopIteration") → E (.ref e) { s with heap := h' }) : wpAny (model prog w) A (Builtin.SmallTypes.nextOf (.ref it)) Q E s := by
  obtain ⟨o, ho, hc, hd⟩ := id hit
  obtain ⟨ol, hol, _, nl, hdl⟩ := ht
  unfold Builtin.SmallTypes.nextOf
  refine wpAny_bind (wpAny_callSpecial?_slot (name := Str.ofString "__next__") hit.typeIs slot_tupleiter_next (wpAny_call_entry slot_tupleiter_next hit.typeIs entry_tupleiter_next ?_ (args_tupleiter_next _)))
  show wpAny _ _ (field (.ref it) 0 >>= _) _ _ s
  refine wpAny_bind (wpAny_field ho hd (x := .ref t) rfl ?_)
  show wpAny _ _ (if (Value.ref t == Value.none) = true then _ else _) _ _ s
  rw [if_neg (show ¬ ((Value.ref t == Value.none) = true) from Bool.false_ne_true)]
  show wpAny _ _ (field (.ref it) 1 >>= _) _ _ s
  refine wpAny_bind (wpAny_field ho hd (x := .int i 0) rfl ?_)
  show wpAny _ _ (seqItems? (.ref t) >>= _) _ _ s
  refine wpAny_bind (wpAny_seqItems hol hdl ?_)
  simp only [Int.toNat_natCast, hx]
  refine wpAny_bind (wpAny_rule (wpAny_bind (wpAny_setField ho hd (by simp) ?_)))
  show wpAny _ _ (newExc (.type "StopIteration") [] >>= _) _ _ _
  refine wpAny_bind ?_
  simp only [newExc, newTuple]
  refine wpAny_bind (wpAny_newObj_type ?_ (by size_fits))
  refine wpAny_bind (m := firstArgMember _ _) (wpAny_of_eq (a := Value.none) (by first | rfl | (simp only [firstArgMember]; rfl)) ?_)
  refine wpAny_newObj_type ?_ (by size_fits)
  simp only [raiseNew]
  refine wpAny_bind (wpAny_handled ?_)
  first | rw [show A.in1.handled = none from hh] | rw [hh]
  refine wpAny_bind (wpAny_pure (wpAny_throw ?_))
  exact hE _ _ (((Heap.SameBut.update ..).extBut.push _).push _) ⟨_, Heap.get?_push_size _ rfl, rfl⟩
end
theorem drawsTuple {prog : Program} {w : World} {A : Around} (hh : A.handled = none) (it t : Addr) (hne : t ≠ it) (items : Array Value) :
    Draws prog w A it [it, t] items.size (fun i v => items[i]? = some v) (fun i h => IsTupIter h it t i ∧ IsTup h t items) where
  live := fun _ _ st => let ⟨o, ho, _⟩ := st.1; ⟨o, ho⟩
  frame := fun _ _ _ st hk => ⟨let ⟨o, ho, r⟩ := st.1; ⟨o, hk it (by simp) o ho, r⟩, let ⟨o, ho, r⟩ := st.2; ⟨o, hk t (by simp) o ho, r⟩⟩
  item := fun i s Q E hi st hQ => by
    refine nextOf_tuple_item st.1 st.2 (x := items[i]) (by simp [hi]) fun h' hit' hs' => ?_
    exact hQ _ h' s.toks (by simp [hi]) ⟨hit', st.2.extBut hs'.extBut hne⟩ hs'
  done := fun s Q E st hE => nextOf_tuple_end hh st.1 st.2 (by simp) hE
open AutoSeq1 (wpAny_loadPart') in
theorem meets_enumerate_newT (t : Addr) (o : Obj) (items : Array Value) (n : Nat) (hc : o.cls = .type "tuple") (hd : o.data = .seq items n) :
    Meets (Builtin.«enumerate.__new__» ⟨[.type "enumerate", .ref t], []⟩) (fun _ R s => s.heap.get? t = some o ∧
      R (.ok (.ret (.ref (s.heap.push { cls := .type "tuple_iterator", data := .fields #[.ref t, .int 0 0] }).objs.size)))
        { s with heap := (s.heap.push { cls := .type "tuple_iterator", data := .fields #[.ref t, .int 0 0] }).push { cls := .type "enumerate", data := .fields #[.none, .bool false, .ref s.heap.objs.size, rawInt 0, .none, .none] } }) :=
  .of_wp fun prog w A R s h => by
    obtain ⟨hp, g, d, tk, os⟩ := s; obtain ⟨hl, h⟩ := h
    have hsub := sub_enumerate
    have hT : IsTup (Shared.heap ⟨hp, g, d, tk, os⟩) t items := ⟨_, hl, hc, n, hd⟩
    wp_walk using wpAny_loadPart' hl
    refine wpAny_stack_any fun st => wpAny_pure ?_
    split
    · rename_i c _ _ _ _ _
      cases (c == Value.type "enumerate")
      · wp_walk using wpAny_loadPart' hl, iter_tuple hT
        exact ⟨_, rfl, h⟩
      · wp_walk using wpAny_loadPart' hl, iter_tuple hT
        exact ⟨_, rfl, h⟩
    · wp_walk using wpAny_loadPart' hl, iter_tuple hT
      exact ⟨_, rfl, h⟩
section
variable {prog : Program} {w : World} {A : Around} {E : Value → Shared → Prop} {s : Shared}
theorem call_enumerate_tuple {t : Addr} {items : Array Value} {Q : Value → Shared → Prop} (hT : IsTup s.heap t items)
    (h : ∀ h', IsEnum h' (s.heap.objs.size + 1) s.heap.objs.size 0 .none → IsTupIter h' s.heap.objs.size t 0 → h'.objs.size = s.heap.objs.size + 2 →
      (∀ b o, s.heap.get? b = some o → h'.get? b = some o) → Q (.ref (s.heap.objs.size + 1)) { s with heap := h' }) :
    wpAny (model prog w) A (call (.type "enumerate") [.ref t]) Q E s := by
  obtain ⟨o, hl, hc, n, hd⟩ := hT
  refine callType_new F.called_enumerate (by decide) (F.typeCall_enumerate_1 _) (F.newCall_enumerate_1 _) (fun obj => F.args_object_init_2 obj _) F.entry_enumerate_new (meets_enumerate_newT t o items n hc hd) ⟨hl, ?_⟩
  have hz : (s.heap.push { cls := .type "tuple_iterator", data := .fields #[.ref t, .int 0 0] }).objs.size = s.heap.objs.size + 1 := Heap.size_push ..
  show _ ∧ _
  rw [hz]
  have he : IsEnum ((s.heap.push { cls := .type "tuple_iterator", data := .fields #[.ref t, .int 0 0] }).push
      { cls := .type "enumerate", data := .fields #[.none, .bool false, .ref s.heap.objs.size, rawInt 0, .none, .none] }) (s.heap.objs.size + 1) s.heap.objs.size 0 .none := by
    have := Heap.get?_push_size (s.heap.push { cls := .type "tuple_iterator", data := .fields #[.ref t, .int 0 0] })
      (o := { cls := .type "enumerate", data := .fields #[.none, .bool false, .ref s.heap.objs.size, rawInt 0, .none, .none] }) rfl
    rw [hz] at this; exact this
  exact ⟨⟨_, he, rfl⟩, h _ he ⟨_, Heap.get?_push_of_some _ (Heap.get?_push_size _ rfl), rfl, rfl⟩ (by rw [Heap.size_push, hz]) fun b o x => Heap.get?_push_of_some _ (Heap.get?_push_of_some _ x)⟩
end
def Iet (K : PySem.W.Frag) (a : Addr) : It :=
  ⟨fun i H => ∃ (xs : List V) (x : V), SqT K H a xs ∧ xs[i]? = some x, fun i H v H' => ∃ T x, v = .ref T ∧ H T = none ∧ H' = upd H T (.tup [.int (i : Nat), x]) ∧ ∀ xs, SqT K H a xs → xs[i]? = some x, fun i H => ∃ xs : List V, SqT K H a xs ∧ xs.length ≤ i⟩
theorem turn_enumT {P : Program} {w : World} {K : PySem.W.Frag} {elts : List Expr} {kk : Nat} {tpos : Pos} (a e it : Addr) :
    Turn P w K (.Tuple elts kk tpos) (Iet K a) [e, it] e (fun i h => (∃ old, IsEnum h e it ((i : Nat) : Int) old) ∧ IsTupIter h it a i ∧ e ≠ it) where
  mem := by simp
  obj := fun i h st b hb => by
    obtain ⟨⟨old, he⟩, ⟨o, ho, hc, hd⟩, _⟩ := st
    have e' : b = e ∨ b = it := by simpa using hb
    rcases e' with z | z
    · rw [z]; exact ⟨_, he, fun v q => nomatch q⟩
    · rw [z]; exact ⟨o, ho, fun v q => by rw [hd] at q; cases q⟩
  keep := fun i h h' st k => let ⟨⟨old, he⟩, ⟨o, ho, r⟩, hne⟩ := st; ⟨⟨old, k e (by simp) _ he⟩, ⟨o, k it (by simp) o ho, r⟩, hne⟩
  item := by
    intro X hP hw hK hc i pins s σ H E I hf st hg
    subst hP hw hK
    obtain ⟨⟨old, he⟩, hit, hne⟩ := st
    obtain ⟨xs, x, hq, hx⟩ := hg
    obtain ⟨its, rv, p, hz⟩ := I.tuple hq
    obtain ⟨u, hu, ru⟩ := rv.get hx
    have hel : e < s.heap.objs.size := Heap.lt_size he
    have hil : it < s.heap.objs.size := by obtain ⟨_, q, _⟩ := hit; exact Heap.lt_size q
    have hai : a ≠ it := fun z => by
      obtain ⟨o, ho, hcl, _⟩ := p
      obtain ⟨o', ho', hcl', _⟩ := hit
      rw [z, ho'] at ho; cases ho
      rw [hcl'] at hcl; exact absurd hcl (by decide)
    have hae : e ≠ a := fun z => by
      obtain ⟨o, ho, hcl, _⟩ := p
      have he' : s.heap.get? e = _ := he
      rw [z, ho] at he'; cases he'
      exact absurd (show Value.type "enumerate" = Value.type "tuple" from hcl) (by decide)
    have hi : i < its.toArray.size := by simpa using (List.getElem?_eq_some_iff.mp hu).1
    refine wpAny_pyNext_enum_itemD (drawsTuple (prog := X.prog) (w := X.w) (A := X.A.in1) (I.ok.hd hc) it a hai its.toArray) he ⟨hit, p⟩ hi hne (by simp [hne, hae]) fun y h' tk hy ho hit' hT hsz hk => ?_
    have ey : y = u := by
      rw [List.getElem?_toArray, hu] at hy
      exact (Option.some.inj hy).symm
    subst ey
    refine ⟨_, rfl, wpAny_letOwnedTupleGo_enum (s := { s with heap := h', toks := tk + 1 }) ho fun h'' he' sb => ?_⟩
    have hT2 : h''.get? s.heap.objs.size = some { cls := .type "tuple", data := .seq #[.int i tk, y] } := (sb.2 _ (Nat.ne_of_gt hel)).trans hT
    have new : ObjOk X.prog X.w (upd H s.heap.objs.size (.tup [.int (i : Nat), x])) h'' s.heap.objs.size (.tup [.int (i : Nat), x]) :=
      ⟨by show 2 ≤ sizeLine; decide, [.int i tk, y], .cons ⟨_, rfl⟩ (.cons ru .nil), ⟨_, hT2, rfl, rfl, _, rfl⟩⟩
    have I1 : Inv X pins σ (upd H s.heap.objs.size (.tup [.int (i : Nat), x])) { s with heap := h'', toks := tk + 1 } :=
      I.turnedNew (ch := [e, it]) (fun b ob hb q => (sb.2 b (fun z => hb (by simp [z]))).trans (hk b ob (fun z => hb (by simp [z])) (fun z => hb (by simp [z])) q)) hf (Nat.le_refl _) new
    refine ⟨.ref s.heap.objs.size, _, I1, rfl, ⟨_, x, rfl, I.hok.fresh (Nat.le_refl _), rfl, fun ys hy => by rw [I.tuple_inj hy hq]; exact hx⟩, ⟨⟨y, ?_⟩, ?_, hne⟩, fun b hb => ?_⟩
    · have e1 : ((i + 1 : Nat) : Int) = (i : Int) + 1 := by omega
      rw [e1]; exact he'
    · obtain ⟨⟨o, ho', r⟩, _⟩ := hit'
      exact ⟨o, (sb.2 it (Ne.symm hne)).trans ho', r⟩
    · have hb' : b < s.heap.objs.size := by
        have e' : b = e ∨ b = it := by simpa using hb
        rcases e' with z | z
        · rw [z]; exact hel
        · rw [z]; exact hil
      rw [upd_ne (Nat.ne_of_lt hb')]
      exact (hf b hb).1
  done := by
    intro X hP hw hK hc i pins s σ H E I hf st hg
    subst hP hw hK
    obtain ⟨⟨old, he⟩, hit, hne⟩ := st
    obtain ⟨xs, hq, hx⟩ := hg
    obtain ⟨its, rv, p, hz⟩ := I.tuple hq
    obtain ⟨f0, f1, f2, f3, f4, f5⟩ := hf it (by simp)
    have hl := rv.length
    have hT : s.TypeIs (.ref e) "enumerate" := ⟨_, he, rfl⟩
    unfold pyNext
    refine wpAny_bind (wpAny_attempt (wpAny_callSpecial?_slot (name := Str.ofString "__next__") hT F.slot_enumerate_next (wpAny_call_entry F.slot_enumerate_next hT F.entry_enumerate_next ?_ (F.args_enumerate_next_1 _))))
    show wpAny _ _ (field (.ref e) 2 >>= _) _ _ _
    refine wpAny_bind (wpAny_field he rfl (x := .ref it) rfl ?_)
    refine wpAny_bind (nextOf_tuple_end (I.ok.hd hc) hit p (by simp; omega) fun h' x he' hx' => ?_)
    obtain ⟨o, ho, hcl⟩ := hx'
    refine wpAny_bind (wpAny_isInstance (T := "StopIteration") (b := true) ⟨o, ho, hcl⟩ isSubtype_stop ?_)
    exact wpAny_pure ⟨rfl, I.turned (t' := s.toks) (fun b o hb q => he' b o hb q) f0 f1 f3 f4 f5⟩
  self := fun A i s Q E st h => let ⟨⟨_, he⟩, _⟩ := st; wpAny_pyIter_enum he h
theorem for_enumT {K : PySem.W.Frag} {a : Addr} {xs : List V} {g : TG} {tb : TS} {D : Ends} {σ : St} {H : Hp} (Pv : Nat → St → Hp → Prop) (h0 : Pv 0 σ H) (hl : ∀ i σ H, i ≤ xs.length → Pv i σ H → SqT K H a xs)
    (hs : ∀ i x σ H T, xs[i]? = some x → Pv i σ H → H T = none → g (.ref T) σ (upd H T (.tup [.int (i : Nat), x])) fun σ2 H2 => tb { D with nx := Pv (i + 1), ct := Pv (i + 1), bk := D.nx } σ2 H2) (hd : ∀ σ H, Pv xs.length σ H → D.nx σ H) :
    ∃ W : Nat → Nat → St → Hp → Prop, (∃ m, W 0 m σ H) ∧ ∀ i m σ H, W i m σ H →
      ((Iet K a).stop i H ∧ D.nx σ H) ∨ ((Iet K a).go i H ∧ ∃ N : St → Hp → Prop, (∀ σ' H', N σ' H' → ∃ m', m' < m ∧ W (i + 1) m' σ' H') ∧ ∀ x H', (Iet K a).yld i H x H' → g x σ H' fun σ2 H2 => tb { D with nx := N, ct := N, bk := D.nx } σ2 H2) := by
  refine ⟨fun i m σ H => m = xs.length - i ∧ i ≤ xs.length ∧ Pv i σ H, ⟨xs.length, by simp, Nat.zero_le _, h0⟩, ?_⟩
  rintro i m σ H ⟨rfl, hi, p⟩
  have q := hl i σ H hi p
  by_cases hlt : i < xs.length
  · refine .inr ⟨⟨xs, xs[i], q, by simp [hlt]⟩, Pv (i + 1), fun σ' H' p' => ⟨xs.length - (i + 1), by omega, rfl, hlt, p'⟩, fun x H' y => ?_⟩
    obtain ⟨T, z, rfl, hT, rfl, hx⟩ := y
    exact hs i z σ H T (hx xs q) p hT
  · have e : i = xs.length := by omega
    subst e
    exact .inl ⟨⟨xs, q, Nat.le_refl _⟩, hd σ H p⟩
theorem for_enum {K : PySem.W.Frag} {a : Addr} {xs : List V} {g : TG} {tb : TS} {D : Ends} {σ : St} {H : Hp} (Pv : Nat → St → Hp → Prop) (h0 : Pv 0 σ H) (hl : ∀ i σ H, i ≤ xs.length → Pv i σ H → SqL K H a xs)
    (hs : ∀ i x σ H T, xs[i]? = some x → Pv i σ H → H T = none → g (.ref T) σ (upd H T (.tup [.int (i : Nat), x])) fun σ2 H2 => tb { D with nx := Pv (i + 1), ct := Pv (i + 1), bk := D.nx } σ2 H2) (hd : ∀ σ H, Pv xs.length σ H → D.nx σ H) :
    ∃ W : Nat → Nat → St → Hp → Prop, (∃ m, W 0 m σ H) ∧ ∀ i m σ H, W i m σ H →
      ((Ite K a).stop i H ∧ D.nx σ H) ∨ ((Ite K a).go i H ∧ ∃ N : St → Hp → Prop, (∀ σ' H', N σ' H' → ∃ m', m' < m ∧ W (i + 1) m' σ' H') ∧ ∀ x H', (Ite K a).yld i H x H' → g x σ H' fun σ2 H2 => tb { D with nx := N, ct := N, bk := D.nx } σ2 H2) := by
  refine ⟨fun i m σ H => m = xs.length - i ∧ i ≤ xs.length ∧ Pv i σ H, ⟨xs.length, by simp, Nat.zero_le _, h0⟩, ?_⟩
  rintro i m σ H ⟨rfl, hi, p⟩
  have q := hl i σ H hi p
  by_cases hlt : i < xs.length
  · refine .inr ⟨⟨xs, xs[i], q, by simp [hlt]⟩, Pv (i + 1), fun σ' H' p' => ⟨xs.length - (i + 1), by omega, rfl, hlt, p'⟩, fun x H' y => ?_⟩
    obtain ⟨T, z, rfl, hT, rfl, hx⟩ := y
    exact hs i z σ H T (hx xs q) p hT
  · have e : i = xs.length := by omega
    subst e
    exact .inl ⟨⟨xs, q, Nat.le_refl _⟩, hd σ H p⟩
theorem lex_ints : ∀ a b : List Int, PyProof.Rows.lexLt PyProof.Rows.itemOrd (a.map Sum.inl) (b.map Sum.inl) = HT.lexLt a b
  | [], [] => rfl
  | [], _ :: _ => rfl
  | _ :: _, [] => rfl
  | x :: r, y :: t => by
    show (decide (x < y) || (!decide (y < x) && PyProof.Rows.lexLt PyProof.Rows.itemOrd (r.map Sum.inl) (t.map Sum.inl))) = if x = y then HT.lexLt r t else decide (x < y)
    rw [lex_ints r t]
    by_cases e : x = y
    · subst e; simp
    · rw [if_neg e]
      by_cases h : x < y
      · simp [h]
      · have : y < x := by omega
        simp [h, this]
theorem tupItems_ints : ∀ {ns : List Int} {us : List Value} (i : Nat), Vals (ns.map V.int) us → PyProof.Rows.tupItems (fun _ => false) i us = some (ns.map Sum.inl)
  | [], _, _, .nil => rfl
  | n :: ns, _, i, .cons r t => by
    obtain ⟨tk, rfl⟩ := r
    show (if (false : Bool) = true then none else (PyProof.Rows.tupItems (fun _ => false) (i + 1) _).map (Sum.inl n :: ·)) = _
    rw [tupItems_ints (i + 1) t]
    rfl
end L2
namespace L2
open PySem PySem.Spec PyProof.Rows
theorem vals_ref : ∀ {ts : List Addr} {us : List Value}, Vals (ts.map V.ref) us → us = ts.map Value.ref
  | [], _, .nil => rfl
  | _ :: _, _, .cons r t => by
    cases (show _ = Value.ref _ from r)
    rw [vals_ref t]; rfl
theorem vals_of_ref : ∀ (ts : List Addr), Vals (ts.map V.ref) (ts.map Value.ref)
  | [] => .nil
  | t :: ts => .cons rfl (vals_of_ref ts)
def unref : Value → Addr
  | .ref a => a
  | _ => 0
theorem perm_ref {l : List Value} {ts : List Addr} (h : l.Perm (ts.map Value.ref)) : ∃ qs : List Addr, l = qs.map Value.ref ∧ qs.Perm ts := by
  refine ⟨l.map unref, ?_, ?_⟩
  · rw [List.map_map]
    have : ∀ v ∈ l, (Value.ref ∘ unref) v = v := by
      intro v hv
      obtain ⟨t, _, rfl⟩ := List.mem_map.mp (h.mem_iff.mp hv)
      rfl
    rw [List.map_congr_left this, List.map_id']
  · have := h.map unref
    rw [List.map_map] at this
    have e : ts.map (unref ∘ Value.ref) = ts := by
      have e0 : (unref ∘ Value.ref) = (id : Addr → Addr) := rfl
      rw [e0, List.map_id]
    rwa [e] at this
section
variable {X : Cx}
def rSortT (K : PySem.W.Frag) : List V → Hp → VK → Prop := fun vs H Q => ∃ (a : Addr) (ts : List Addr) (f : Addr → List Int), vs = [V.ref a] ∧ SqL K H a (ts.map V.ref) ∧ (∀ t ∈ ts, H t = some (.tup ((f t).map V.int)) ∧ f t ≠ []) ∧
  ∀ (qs : List Addr) (p : Addr), qs.Perm ts → qs.Pairwise (fun x y => HT.lexLt (f y) (f x) = false) → H p = none → Q (.ref p) (upd H p (.lst (qs.map V.ref)))
theorem tup_at {pins : List (Addr × Obj)} {σ : St} {H : Hp} {s : Shared} (I : Inv X pins σ H s) {t : Addr} {ns : List Int} (h : H t = some (.tup (ns.map V.int))) :
    ∃ o its n, s.heap.get? t = some o ∧ o.cls = .type "tuple" ∧ o.data = .seq its n ∧ Vals (ns.map V.int) its.toList := by
  obtain ⟨_, its, rv, o, e1, c1, _, n, d1⟩ := (show ObjOk X.prog X.w H s.heap t (.tup _) from I.hok t _ h)
  exact ⟨o, its.toArray, n, e1, c1, d1, by simpa using rv⟩
theorem tupsOf_ts {pins : List (Addr × Obj)} {σ : St} {H : Hp} {s : Shared} (I : Inv X pins σ H s) {f : Addr → List Int} : ∀ {ts : List Addr}, (∀ t ∈ ts, H t = some (.tup ((f t).map V.int)) ∧ f t ≠ []) → ∃ fs, PyProof.Rows.TupsOf s.heap (fun _ => false) (ts.map Value.ref) fs
  | [], _ => ⟨[], .nil⟩
  | t :: ts, h => by
    obtain ⟨fs, r⟩ := tupsOf_ts I (ts := ts) fun x hx => h x (List.mem_cons_of_mem _ hx)
    obtain ⟨h1, h2⟩ := h t List.mem_cons_self
    obtain ⟨o, its, n, e1, c1, d1, rv⟩ := tup_at I h1
    cases e : f t with
    | nil => exact absurd e h2
    | cons z zs =>
      rw [e] at rv
      obtain ⟨its⟩ := its
      have rv : Vals (V.int z :: zs.map V.int) its := rv
      cases rv with
      | cons r0 rt =>
        obtain ⟨tk, rfl⟩ := r0
        exact ⟨_, .cons ⟨t, o, _, n, rfl, e1, c1, d1, rfl, fun _ => ⟨z, tk, rfl⟩, fun q => absurd q (by simp)⟩ r⟩
theorem tupKey_t {pins : List (Addr × Obj)} {σ : St} {H : Hp} {s : Shared} (I : Inv X pins σ H s) {t : Addr} {ns : List Int} (h : H t = some (.tup (ns.map V.int))) : PyProof.Rows.G.tupKeyC s.heap (fun _ => false) (.ref t) = some (ns.map Sum.inl) := by
  obtain ⟨o, its, n, e1, c1, d1, rv⟩ := tup_at I h
  have e2 : PyProof.Rows.G.isTupObj s.heap (.ref t) = true := by
    unfold PyProof.Rows.G.isTupObj
    simp only [e1, c1]
    rfl
  unfold PyProof.Rows.G.tupKeyC
  rw [if_pos e2]
  unfold PyProof.Rows.tupKey
  simp only [e1, d1]
  exact tupItems_ints 0 rv
theorem cr_sortedT : CallR X (.builtin "sorted") (rSortT X.K) := by
  intro pins s σ H vs us Q I r h
  obtain ⟨a, ts, f, rfl, hs, hts, q⟩ := h
  obtain ⟨its, rv, hl, hz⟩ := I.list hs
  rw [Vals.ref1 r]
  have ei := vals_ref rv
  subst ei
  obtain ⟨fs, hfs⟩ := tupsOf_ts I hts
  have hlen : (ts.map Value.ref).length ≤ sizeLine := by rw [List.length_map]; rw [List.length_map] at hz; exact hz
  refine PyProof.Rows.G.sorted_tups (shape := fun _ => false) hl.isList hfs (fun v hv => ?_) hlen fun st' hp hso hst => ?_
  · obtain ⟨t, ht, rfl⟩ := List.mem_map.mp hv
    exact ⟨_, tupKey_t I (hts t ht).1⟩
  · obtain ⟨ep, he'⟩ := PyProof.Rows.sortedAll_at s.heap (ts.map Value.ref) ((arrOf st').map (·.2))
    have hpl : (arrOf st').toList.Perm ((ts.map Value.ref).zip (ts.map Value.ref)) := by
      rw [← pairsOf_toList]; exact Array.perm_iff_toList_perm.mp hp
    have same : ∀ p ∈ (arrOf st').toList, p.1 = p.2 := fun p hm => (mem_zip_self (hpl.mem_iff.mp hm)).1
    have ho : ((arrOf st').map (·.2)).toList.Perm (ts.map Value.ref) := by
      rw [Array.toList_map]
      have := hpl.map (·.2)
      rwa [List.map_snd_zip (by simp)] at this
    obtain ⟨qs, eq, pq⟩ := perm_ref ho
    have hl2 : (qs.map V.ref).length ≤ sizeLine := by rw [List.length_map, pq.length_eq]; rw [List.length_map] at hz; exact hz
    refine ⟨.ref _, upd H (s.heap.objs.size + 1) (.lst (qs.map V.ref)), I.laid (t' := s.toks) (fun _ _ => PyProof.Rows.sortedAll_old) (Nat.le_succ _) ⟨hl2, ((arrOf st').map (·.2)).toList, ep, by rw [eq]; exact vals_of_ref qs, by rw [Array.toArray_toList]; exact he'⟩, rfl, q qs _ pq ?_ (I.hok.fresh (Nat.le_succ _))⟩
    have hsz : (arrOf st').size = qs.length := by
      have := congrArg List.length eq
      simpa using this
    have hk : ∀ (i : Nat) (hi : i < qs.length), KK (PyProof.Rows.G.tupKindC s.heap (fun _ => false)) (arrOf st') i = (f qs[i]).map Sum.inl := by
      intro i hi
      have hi' : i < (arrOf st').size := by omega
      unfold KK
      rw [Array.getElem?_eq_getElem hi']
      have e1 : (arrOf st')[i].1 = (arrOf st')[i].2 := same _ (Array.getElem_mem_toList hi')
      have e2 : (arrOf st')[i].2 = Value.ref qs[i] := by
        have h1 : ((arrOf st').map (·.2)).toList[i]? = some ((arrOf st')[i].2) := by simp [hi']
        rw [eq, List.getElem?_map, List.getElem?_eq_getElem hi] at h1
        exact (Option.some.inj h1).symm
      show ((PyProof.Rows.G.tupKeyC s.heap (fun _ => false) (arrOf st')[i].1)).getD _ = _
      rw [e1, e2, tupKey_t I (hts _ (pq.mem_iff.mp (List.getElem_mem hi))).1]
      rfl
    rw [List.pairwise_iff_getElem]
    intro i j hi hj hij
    have := hso i j (Nat.le_of_lt hij) (by rw [pairsOf_size, List.length_map, ← pq.length_eq]; exact hj)
    rw [hk i hi, hk j hj] at this
    rw [← lex_ints]
    exact this
theorem cr_sortedTK {K : PySem.W.Frag} (hK : X.K = K := by rfl) : CallR X (.builtin "sorted") (rSortT K) := by subst hK; exact cr_sortedT
end
end L2
namespace L2
open PySem PySem.Spec PyProof.Rows
section
variable {X : Cx}
theorem op_fdivB : OpR X (binaryOp .FloorDiv) (rI (fun _ j => 0 < j ∧ j < 2 ^ 64) fun i j => .int (i / j)) := opI fun i j _ _ _ _ _ hc q => by
  have h1 : (0 : Int) < j := hc.1
  have h2 : j < 2 ^ 64 := hc.2
  refine floordiv_int (by omega) (by rw [Int.fdiv_eq_ediv_of_nonneg i (by omega)]; exact q) (.inl (PyProof.noPylong_of_log2 ?_))
  have : j.natAbs.log2 < 64 := log64 (by omega)
  omega
end
section
variable {X : Cx} {K : PySem.W.Frag}
theorem cr_allK (hc : X.calm = true) (hK : X.K = K := by rfl) : CallR X (.builtin "all") (rAll K) := by subst hK; exact cr_all hc
def rIxS2 (K : PySem.W.Frag) : R2 := fun x y H Q => ∃ p xs i v, x = .ref p ∧ y = .int i ∧ (SqL K H p xs ∨ SqT K H p xs) ∧ atI xs i = some v ∧ Q v H
theorem ix_seqK (hK : X.K = K := by rfl) : IxR X (rIxS2 K) := by
  subst hK
  intro value slice pins s σ H x y v u Q I rx ry h hs
  obtain ⟨p, xs, i, z, e1, e2, hq, ha, q⟩ := h
  rcases hq with hq | hq
  · exact ix_list value slice pins s σ H x y v u Q I rx ry ⟨p, xs, i, z, e1, e2, hq, ha, q⟩ hs
  · exact ix_tup value slice pins s σ H x y v u Q I rx ry ⟨p, xs, i, z, e1, e2, hq, ha, q⟩ hs
def gSeq (K : PySem.W.Frag) (n : Nat) (t : TGs) : TG := fun v σ H Q => ∃ a xs, v = .ref a ∧ (SqL K H a xs ∨ SqT K H a xs) ∧ xs.length = n ∧ t xs σ H Q
theorem pg_seqK {es : List Expr} {k : Nat} {t : TGs} {n : Nat} {pos : Pos} (hc : X.calm = true) (h : PGs X es t)
    (hn : (assignEach es X.env).length = n := by rfl) (hst : (assignEach es X.env).findIdx? (·.1) = none := by rfl) (hK : X.K = K := by rfl) : PG X (.Tuple es k pos) (gSeq K n t) := by
  subst hK
  intro pins s σ H v u Q I r hw
  obtain ⟨a, xs, e1, hq, hl, hw⟩ := hw
  rcases hq with hq | hq
  · exact pg_lst hc h hn hst pins s σ H v u Q I r ⟨a, xs, e1, hq, hl, hw⟩
  · exact pg_tup hc h hn hst pins s σ H v u Q I r ⟨a, xs, e1, hq, hl, hw⟩
end
def btw (x : V) (lo hi : Int) : Bool := match x with
  | .int i => decide (lo ≤ i) && decide (i ≤ hi)
  | _ => false
theorem kd_int {H : Hp} {x : V} {k : Kd} (h : kdOf H x = some k) : (k = .int ↔ ∃ i, x = .int i) := by
  cases x with
  | int i => cases h; exact ⟨fun _ => ⟨i, rfl⟩, fun _ => rfl⟩
  | non => cases h; exact ⟨fun e => (by cases e), fun ⟨_, e⟩ => (by cases e)⟩
  | bl b => cases h; exact ⟨fun e => (by cases e), fun ⟨_, e⟩ => (by cases e)⟩
  | str z => cases h; exact ⟨fun e => (by cases e), fun ⟨_, e⟩ => (by cases e)⟩
  | byt _ => cases h
  | flt _ => cases h
  | ty _ => cases h
  | ref a =>
    refine ⟨fun e => ?_, fun ⟨_, e⟩ => (by cases e)⟩
    subst e
    unfold kdOf at h
    simp only at h
    split at h <;> cases h
section
variable {X : Cx} {K : PySem.W.Frag} {tg : Expr}
def iSeq (K : PySem.W.Frag) (tl : TE) : TI := fun σ H R => tl σ H fun x H1 => ∃ a, x = .ref a ∧ (((∃ xs, SqL K H1 a xs) ∧ R (Itl K a) H1) ∨ ((∃ xs, SqT K H1 a xs) ∧ R (Itt K a) H1))
theorem pi_seqK {l : Expr} {tl : TE} (hl : PE X l tl) (hK : X.K = K := by rfl) : PI X tg l (iSeq K tl) := by
  subst hK
  intro pins s σ H R I h
  refine thn (hl pins s σ H _ I h) fun v s1 ⟨x, H1, I1, r1, q1⟩ => ?_
  obtain ⟨a, e, q1⟩ := q1
  subst e
  cases r1
  rcases q1 with ⟨⟨xs, hq⟩, q⟩ | ⟨⟨xs, hq⟩, q⟩
  · obtain ⟨its, rv, p, hz⟩ := I1.list hq
    refine wpAny_pyIter_list p.isList ?_
    refine ⟨s1.heap.objs.size, [s1.heap.objs.size], _, _, H1, rfl, I1.kept (t' := s1.toks) fun b o e => Heap.get?_push_of_some _ e, turn_list a _, ⟨_, Heap.get?_push_size _ rfl, rfl, rfl⟩, fun b hb => ?_, q⟩
    have e : b = s1.heap.objs.size := by simpa using hb
    subst e
    exact I1.fpOk (Nat.le_refl _) (I1.hok.fresh (Nat.le_refl _))
  · obtain ⟨its, rv, p, hz⟩ := I1.tuple hq
    refine wpAny_pyIter_tuple (show s1.heap.IsTuple a its.toArray from p) ?_
    refine ⟨s1.heap.objs.size, [s1.heap.objs.size], _, _, H1, rfl, I1.kept (t' := s1.toks) fun b o e => Heap.get?_push_of_some _ e, turn_tuple a _, ⟨_, Heap.get?_push_size _ rfl, rfl, rfl⟩, fun b hb => ?_, q⟩
    have e : b = s1.heap.objs.size := by simpa using hb
    subst e
    exact I1.fpOk (Nat.le_refl _) (I1.hok.fresh (Nat.le_refl _))
def iEnumS (K : PySem.W.Frag) (ta : TA) : TI := fun σ H R => ta σ H fun vs H1 => ∃ a, vs = [.ref a] ∧ (((∃ xs, SqL K H1 a xs) ∧ R (Ite K a) H1) ∨ ((∃ xs, SqT K H1 a xs) ∧ R (Iet K a) H1))
theorem pi_enumS {e : Expr} {ta : TA} {p pos tpos : Pos} {elts : List Expr} {kk : Nat} (hg : Gl X "enumerate") (hm : X.mg "enumerate" = none) (ha : PA X [e] ta) (hs : starEach [e] X.env = [(false, eval e X.env)] := by rfl) (hK : X.K = K := by rfl) :
    PI X (.Tuple elts kk tpos) (.Call (.Name "enumerate" p) [e] [] pos) (iEnumS K ta) := by
  subst hK
  intro pins s σ H R I h
  refine Call_ (ld_blt I hg hm boot_enumerate (PyProof.Rows.callWith_type1 (thn (ha pos pins s σ H _ I h) fun us s1 ⟨vs, H1, I1, r1, q1⟩ => ?_) hs rfl))
  obtain ⟨a, ex, q1⟩ := q1
  subst ex
  cases r1 with
  | cons r rr =>
    cases rr
    cases r
    have fp : ∀ b, b ∈ [s1.heap.objs.size + 1, s1.heap.objs.size] → s1.heap.objs.size ≤ b := fun b hb => by
      have e' : b = s1.heap.objs.size + 1 ∨ b = s1.heap.objs.size := by simpa using hb
      rcases e' with z | z
      · rw [z]; exact Nat.le_add_right _ _
      · rw [z]; exact Nat.le_refl _
    rcases q1 with ⟨⟨xs, hq⟩, q⟩ | ⟨⟨xs, hq⟩, q⟩
    · obtain ⟨its, rv, p', hz⟩ := I1.list hq
      refine call_enumerate_list p'.isList fun h' he hit hsz hk => wpAny_pyIter_enum he ?_
      have I2 : Inv X pins σ H1 { s1 with heap := h' } := I1.kept (t' := s1.toks) hk
      exact ⟨s1.heap.objs.size + 1, [s1.heap.objs.size + 1, s1.heap.objs.size], _, _, H1, rfl, I2, turn_enum a (s1.heap.objs.size + 1) s1.heap.objs.size, ⟨⟨.none, he⟩, hit, Nat.succ_ne_self _⟩, fun b hb => I1.fpOk (fp b hb) (I1.hok.fresh (fp b hb)), q⟩
    · obtain ⟨its, rv, p', hz⟩ := I1.tuple hq
      refine call_enumerate_tuple p' fun h' he hit hsz hk => wpAny_pyIter_enum he ?_
      have I2 : Inv X pins σ H1 { s1 with heap := h' } := I1.kept (t' := s1.toks) hk
      exact ⟨s1.heap.objs.size + 1, [s1.heap.objs.size + 1, s1.heap.objs.size], _, _, H1, rfl, I2, turn_enumT a (s1.heap.objs.size + 1) s1.heap.objs.size, ⟨⟨.none, he⟩, hit, Nat.succ_ne_self _⟩, fun b hb => I1.fpOk (fp b hb) (I1.hok.fresh (fp b hb)), q⟩
end
end L2
namespace L2
open PySem PySem.Spec PyProof.Rows
theorem HOk.has {P : Program} {w : World} {H : Hp} {h : Heap} (x : HOk P w H h) {a : Addr} {o : HO} (e : H a = some o) : ∃ ob, h.get? a = some ob := by
  have go : ∀ (o : HO), ObjOk P w H h a o → ∃ ob, h.get? a = some ob := by
    intro o
    induction o with
    | lst xs => exact fun ⟨_, _, _, _, q⟩ => ⟨_, q⟩
    | tup xs => exact fun ⟨_, _, _, ob, q, _⟩ => ⟨_, q⟩
    | dK kvs => exact fun ⟨_, _, _, _, ob, _, _, q, _⟩ => ⟨_, q⟩
    | dT kvs => exact fun ⟨_, _, _, _, ob, _, _, q, _⟩ => ⟨_, q⟩
    | set S n => exact fun ⟨ob, _, _, _, q, _⟩ => ⟨_, q⟩
    | ins C dx fs => exact fun ⟨_, _, _, q, _⟩ => ⟨_, q⟩
    | own y => exact fun ⟨ob, q⟩ => ⟨_, q⟩
    | xd fs => exact fun ⟨_, ⟨ob, _, _, q, _⟩, _⟩ => ⟨_, q⟩
    | met f y => exact fun q => ⟨_, q⟩
    | rng lo hi => exact fun ⟨_, _, _, q⟩ => ⟨_, q⟩
    | frz ob u ih => exact fun ⟨q, _⟩ => ⟨_, q⟩
    | tbl ps => exact fun q => ⟨_, q⟩
    | ext φ => exact fun ⟨_, ⟨ob, q⟩, _⟩ => ⟨_, q⟩
  exact go o (x a o e)
theorem Inv.renamed {X : Cx} {pins : List (Addr × Obj)} {σ σ' : St} {H : Hp} {s : Shared} {h' : Heap} {tk : Nat} {m' : Str → Option Value} (I : Inv X pins σ H s) (hs : Heap.SameBut X.env.locals s.heap h') (hn : h'.Ns X.env.locals m')
    (hl : ∀ (i : Nat) (x : Str) (v : V), X.N[i]? = some x → σ'[i]? = some (some v) → Vis X.env.scope x → ∃ u, RelV v u ∧ Look X.env h' m' x u) (hlen : σ'.length = σ.length) : Inv X pins σ' H { s with heap := h', toks := tk } := by
  have old : ∀ {b : Addr} {o : Obj}, X.s_0.heap.get? b = some o → h'.get? b = s.heap.get? b := fun {b o} e => hs.2 b (Nat.ne_of_lt (Nat.lt_of_lt_of_le (Heap.lt_size e) I.ok.above))
  refine ⟨I.ok, I.os, I.bare, ⟨fun b o e n hb hx => (old e).trans (I.base.keep b o e n hb hx), fun b o e n hb hx => ?_, I.base.free, fun b o e hx => ?_, I.base.tups, I.base.frzs, I.base.tbls⟩, ⟨m', hn, hl⟩, fun y c e => ?_, I.free, I.freeC, fun p hp => ?_, fun b ob e => ?_, hlen.trans I.len⟩
  · obtain ⟨sl, q⟩ := I.base.slot b o e n hb hx
    exact ⟨sl, (old e).trans q⟩
  · obtain ⟨o', q⟩ := I.base.there b o e hx
    exact ⟨o', (old e).trans q⟩
  · obtain ⟨w', z⟩ := I.cell y c e
    exact ⟨w', z.sameBut hs (I.cne y c e)⟩
  · obtain ⟨e, n, ne, nf, d⟩ := I.pin p hp
    exact ⟨(hs.2 p.1 ne).trans e, n, ne, nf, d⟩
  · refine (I.hok b ob e).stay (fun c w' hc q => (hs.2 c ?_).trans q) (fun _ q => q) fun _ _ q => q
    rintro rfl
    rcases hc with z | z
    · rw [← z, I.free] at e; cases e
    · rw [I.free] at z; cases z
end L2
namespace L2
end L2
namespace L2
open PySem PySem.Spec PyProof.Rows
section
variable {X : Cx} {K : PySem.W.Frag}
def rCatS (K : PySem.W.Frag) : R2 := fun x y H Q => ∃ a b xs ys, x = .ref a ∧ y = .ref b ∧ H a = some (.tup xs) ∧ H b = some (.tup ys) ∧ xs.length + ys.length ≤ sizeLine ∧
  ∀ (p : Addr) (H' : Hp), Same H H' → H' p = some (.tup (xs ++ ys)) → Q (.ref p) H'
theorem op_catS (hK : X.K = K := by rfl) : OpR X (binaryOp .Add) (rCatS K) := by
  subst hK
  intro pins s σ H x y v u Q I rx ry h
  obtain ⟨a, b, xs, ys, rfl, rfl, ha, hb, hz, q⟩ := h
  by_cases hx : xs = []
  · subst hx
    cases rx
    cases ry
    obtain ⟨its, r1, p1, _⟩ := I.tuple (SqT.of ha)
    obtain ⟨its2, r2, p2, _⟩ := I.tuple (SqT.of hb)
    cases r1
    obtain ⟨⟨cls, dd, data, sl⟩, ho, hc, n, hd⟩ := id p1
    obtain ⟨⟨cls2, dd2, data2, sl2⟩, ho2, hc2, n2, hd2⟩ := id p2
    simp only at hc hd hc2 hd2
    subst hc hd hc2 hd2
    refine (concat_meets ⟨_, ho, rfl⟩ ⟨_, ho2, rfl⟩ noFill_tuple_add seq_tuple_add PySem.F.slot_tuple_add PySem.F.entry_tuple_add (PySem.F.args_tuple_add_2 _ _) (tuple_addW0 a b _ _ n n2 dd dd2 sl sl2 rfl) ⟨ho, ho2, ?_⟩)
    exact ⟨.ref b, H, I, rfl, q b H (Same.refl H) hb⟩
  · refine op_catT pins s σ H _ _ v u Q I rx ry ⟨a, b, xs, ys, rfl, rfl, SqT.of ha, SqT.of hb, hx, hz, fun e => ?_, fun e p hp => q p _ (Same.new hp) upd_same⟩
    subst e
    rw [List.append_nil] at q
    exact q a H (Same.refl H) ha
end
section
variable {X : Cx} {K : PySem.W.Frag}
theorem cutV_all {xs : List V} {lo hi : Option Int} (h : HT.sIx xs.length 0 lo = 0 ∧ HT.sIx xs.length xs.length hi = xs.length) : cutV xs lo hi = xs := by
  unfold cutV
  rw [h.1, h.2, List.drop_zero, Nat.sub_zero, List.take_length]
theorem slice_all {A : Around} {E : Value → Shared → Prop} {prog : Program} {w : World} {s : Shared} {t sl : Addr} {items : Array Value} {vl vu : Value} {lo hi : Option Int} {Q : Value → Shared → Prop} (ht : IsTup s.heap t items) (hs : s.heap.IsSliceOf sl vl vu .none) (pl : IsPart vl lo) (pu : IsPart vu hi)
    (hw : HT.sIx items.size 0 lo = 0 ∧ HT.sIx items.size items.size hi = items.size) (h : Q (.ref t) s) : wpAny (model prog w) A (getItem (.ref t) (.ref sl)) Q E s := by
  obtain ⟨os, hos, hcs, hds⟩ := id hs
  have hTs : s.TypeIs (.ref sl) "slice" := ⟨os, hos, hcs⟩
  unfold getItem
  refine wpAny_holding ?_
  refine wpAny_bind (wpAny_sequenceKey ht.typeIs (by decide) ?_)
  refine (wpAny_bind (wpAny_callSpecial?_slot (name := Str.ofString "__getitem__") ht.typeIs PyProof.Rows.slot_tuple_getitem (wpAny_call_entry PyProof.Rows.slot_tuple_getitem ht.typeIs entry_tuple_getitem ?_ (args_tuple_getitem _ _))))
  show wpAny _ _ (Builtin.Tuple.tupleItemsOf (.ref t) >>= _) _ _ s
  refine wpAny_bind (tupleItemsOf_ ht ?_)
  refine wpAny_bind (wpAny_typeOf hTs ?_)
  rw [if_pos (by decide)]
  refine wpAny_bind (HT.sliceApplied_gen hs pl pu ?_)
  rw [hw.1, hw.2]
  show wpAny _ _ (if (((0 : Nat) : Int) == 0 && (1 : Int) == 1 && (items.size - 0) == items.size) = true then _ else _) _ _ s
  rw [if_pos (by rw [Nat.sub_zero]; simp)]
  have ex : wpAny (model prog w) A.in1 (Builtin.Tuple.tupleIsExact (.ref t)) (fun b s' => b = true ∧ s' = s) (fun _ _ => False) s := by
    unfold Builtin.Tuple.tupleIsExact
    first
      | exact wpAny_bind (wpAny_typeOf ht.typeIs (wpAny_pure ⟨rfl, rfl⟩))
      | exact wpAny_bind (wpAny_typeOf ht.typeIs (wpAny_bind (wpAny_pure (wpAny_pure ⟨rfl, rfl⟩))))
  refine wpAny_bind (wpAny_mono ex (fun b s' hb => ?_) fun _ _ z => z.elim)
  obtain ⟨rfl, rfl⟩ := hb
  rw [if_pos rfl]
  exact wpAny_bind (wpAny_rule (wpAny_pure ⟨_, rfl, wpAny_pure h⟩))
def rSlS2 (K : PySem.W.Frag) : V → Option Int → Option Int → Hp → VK → Prop := fun x lo hi H Q => ∃ a xs, x = .ref a ∧ H a = some (.tup xs) ∧ ∀ (p : Addr) (H' : Hp), Same H H' → H' p = some (.tup (cutV xs lo hi)) → Q (.ref p) H'
theorem sl_tupS (hK : X.K = K := by rfl) : SlR X (rSlS2 K) := by
  subst hK
  intro pins s σ H x v vl vu lo hi sl Q I rx hs pl pu h
  obtain ⟨a, xs, rfl, hx, q⟩ := h
  by_cases hw : HT.sIx xs.length 0 lo = 0 ∧ HT.sIx xs.length xs.length hi = xs.length
  · cases rx
    obtain ⟨its, r, ht, hz⟩ := I.tuple (SqT.of hx)
    have hlen : its.toArray.size = xs.length := by rw [List.size_toArray]; exact r.length.symm
    refine ⟨"tuple", _, PyProof.Rows.slot_tuple_getitem.lookup, ht.typeIs, slice_all ht hs pl pu (by rw [hlen]; exact hw) ⟨.ref a, H, I, rfl, q a H (Same.refl H) ?_⟩⟩
    rw [cutV_all hw]
    exact hx
  · exact sl_tup pins s σ H _ v vl vu lo hi sl Q I rx hs pl pu ⟨a, xs, rfl, SqT.of hx, hw, fun p hp => q p _ (Same.new hp) upd_same⟩
end
section
variable {prog : Program} {w : World} {A : Around} {E : Value → Shared → Prop} {s : Shared}
theorem collect_tup {l : Addr} {vs : List Value} {Q : List Value → Shared → Prop} (hl : IsTup s.heap l vs.toArray) (hsz : vs.length ≤ sizeLine)
    (h : Q vs { s with heap := (s.heap.push (seqObj "list" #[] 0)).update s.heap.objs.size (Obj.mapSeq (· ++ vs.toArray)) }) : wpAny (model prog w) A (collect (.ref l)) Q E s := by
  obtain ⟨o, ho, hc, n, hd⟩ := id hl
  unfold collect
  refine (wpAny_bind (wpAny_runValue (codeAny_builtin entry_proto_collect' ?_)))
  show wpAny _ _ (do again (.builtin "list.__iadd__" ⟨[← newList [], .ref l], []⟩)) _ _ s
  refine (wpAny_bind (wpAny_newList (wpAny_pure ⟨Code.quiet_builtin _ (by decide +kernel), codeAny_builtin entry_list_iadd' ?_⟩)))
  show wpAny _ _ (Builtin.List.listExtendWith (.ref s.heap.objs.size) (.ref l) (.ref s.heap.objs.size)) _ _ { s with heap := s.heap.push (seqObj "list" #[] 0) }
  unfold Builtin.List.listExtendWith
  have ho2 : (s.heap.push (seqObj "list" #[] 0)).get? l = some o := Heap.get?_push_of_some _ ho
  refine wpAny_bind (wpAny_typeOf (T := "tuple") ⟨o, ho2, hc⟩ ?_)
  rw [if_pos (show (Builtin.List.listSameRef (.ref s.heap.objs.size) (.ref l) || Value.type "tuple" == Value.type "list" || Value.type "tuple" == Value.type "tuple") = true from by
    have e : (Value.type "tuple" == Value.type "tuple") = true := rfl
    rw [e, Bool.or_true])]
  refine wpAny_bind (listItems_at ho2 hd ?_)
  refine (wpAny_bind (listItems_at (xs := #[]) (n := 0) (Heap.get?_push_size _ rfl) rfl ?_))
  rw [if_neg (by simp)]
  refine (wpAny_bind (listUpdate_at (xs := #[]) (n := 0) (Heap.get?_push_size _ rfl) rfl ?_ (Nat.zero_le _) (by show (#[] ++ vs.toArray).size ≤ sizeLine + 1; simp only [Array.size_append, List.size_toArray, List.length_nil]; omega)))
  refine wpAny_pure ?_
  refine wpAny_bind (wpAny_load (get?_update_seq (Heap.get?_push_size _ rfl) _) ?_)
  show wpAny _ _ (pure ((#[] : Array Value) ++ vs.toArray).toList) Q E _
  have e : ((#[] : Array Value) ++ vs.toArray).toList = vs := by simp
  rw [e]
  exact wpAny_pure h
theorem sorted_tup {l : Addr} {vs : List Value} {ns : List Int} {Q : Value → Shared → Prop} (hl : IsTup s.heap l vs.toArray) (hI : IntsAre vs ns) (h64 : vs.length < 64)
    (h : ∀ (out : Array Value) (ns' : List Int), IntsAre out.toList ns' → ns'.Perm ns → ns'.Pairwise (· ≤ ·) → Q (.ref (s.heap.objs.size + 1)) { s with heap := sortedAll s.heap vs out }) :
    wpAny (model prog w) A (call (.builtin "sorted") [.ref l]) Q E s := by
  refine (Calls.call_function_entry kind_sorted plain_sorted entry_sorted (args_sorted1 _) ?_)
  unfold Builtin.«sorted»
  refine (wpAny_bind (m := checkCount "sorted" 1 1 _) (wpAny_pure ?_))
  refine wpAny_bind (collect_tup hl (by rw [sizeLine_eq]; omega) ?_)
  refine wpAny_bind (wpAny_newList ?_)
  have sz : ((s.heap.push (seqObj "list" #[] 0)).update s.heap.objs.size (Obj.mapSeq (· ++ vs.toArray))).objs.size = s.heap.objs.size + 1 := by rw [Heap.size_update, size_push']
  have hoL : (((s.heap.push (seqObj "list" #[] 0)).update s.heap.objs.size (Obj.mapSeq (· ++ vs.toArray))).push (seqObj "list" vs.toArray 0)).get? (s.heap.objs.size + 1) = some (seqObj "list" vs.toArray 0) := by rw [← sz]; exact Heap.get?_push_size _ rfl
  show wpAny _ _ _ _ _ { s with heap := ((s.heap.push (seqObj "list" #[] 0)).update s.heap.objs.size (Obj.mapSeq (· ++ vs.toArray))).push (seqObj "list" vs.toArray 0) }
  rw [sz]
  refine (wpAny_bind (wpAny_holding (wpAny_call_entry slot_list_sort ⟨_, hoL, rfl⟩ entry_list_sort (list_sort_tree hoL hI h64 fun out ns' a1 a2 a3 => ⟨_, rfl, ?_⟩) (args_list_sort _))))
  exact (wpAny_pure ⟨_, rfl, h out ns' a1 a2 a3⟩)
end
section
variable {X : Cx} {K : PySem.W.Frag}
def rSortQ (K : PySem.W.Frag) : List V → Hp → VK → Prop := fun vs H Q => ∃ (a : Addr) (ns : List Int), vs = [V.ref a] ∧ (SqL K H a (ns.map V.int) ∨ SqT K H a (ns.map V.int)) ∧ ns.length < 64 ∧ ∀ (ns' : List Int) (p : Addr), ns'.Perm ns → ns'.Pairwise (· ≤ ·) → H p = none → Q (.ref p) (upd H p (.lst (ns'.map V.int)))
theorem cr_sortedQ (hK : X.K = K := by rfl) : CallR X (.builtin "sorted") (rSortQ K) := by
  subst hK
  intro pins s σ H vs us Q I r h
  obtain ⟨a, ns, rfl, hs, h64, q⟩ := h
  rcases hs with hs | hs
  · exact cr_sorted pins s σ H _ us Q I r ⟨a, ns, rfl, hs, h64, q⟩
  · obtain ⟨its, rv, hl, _⟩ := I.tuple hs
    rw [Vals.ref1 r]
    have hi := rv.ints
    refine sorted_tup hl hi (by rw [hi.length]; exact h64) fun out ns' h1 h2 h3 => ?_
    obtain ⟨ep, he'⟩ := PyProof.Rows.sortedAll_at s.heap its out
    have hlen : (ns'.map V.int).length ≤ sizeLine := by rw [List.length_map, h2.length_eq]; exact small64 h64
    exact ⟨.ref _, upd H (s.heap.objs.size + 1) (.lst (ns'.map V.int)), (I.laid (t' := s.toks) (fun _ _ => PyProof.Rows.sortedAll_old) (Nat.le_succ _) ⟨hlen, out.toList, ep, vals_of_ints h1, he'⟩), rfl, q ns' _ h2 h3 (I.hok.fresh (Nat.le_succ _))⟩
end
inductive Bx (H : Hp) : V → PyData → Prop
  | non : Bx H .non .none
  | bl (b : Bool) : Bx H (.bl b) (.bool b)
  | int (i : Int) : Bx H (.int i) (.int i)
  | str (x : Str) : Bx H (.str x) (.str x)
  | dct {a : Addr} {kvs : List (Int × Int)} : H a = some (.dK (kvs.map fun p => (Sum.inl p.1, V.int p.2))) → Bx H (.ref a) (.dict (kvs.map fun p => (PyData.int p.1, PyData.int p.2)))
theorem reads_kv {h : Heap} {prog : Program} {w : World} : ∀ {kvs : List (Int × Int)} {vs : List (Key × Value)} {es : List DictEntry}, KV (kvs.map fun p => ((Sum.inl p.1 : Key), V.int p.2)) vs → Pairs (mixKind prog w) es vs →
    ReadsAll h (es.map (·.key)) ((kvs.map fun p => (PyData.int p.1, PyData.int p.2)).map (·.1)) [] ∧ ReadsAll h (es.map (·.val)) ((kvs.map fun p => (PyData.int p.1, PyData.int p.2)).map (·.2)) []
  | [], _, _, r, p => by
    cases r
    cases p
    exact ⟨.nil, .nil⟩
  | k :: kvs, _, _, r, p => by
    rw [List.map_cons] at r
    cases r with
    | cons h1 h2 =>
      cases p with
      | cons p1 p2 p3 =>
        obtain ⟨i1, i2⟩ := reads_kv h2 p3
        obtain ⟨e1, e2⟩ := h1
        rw [← e1, mixKind_is] at p1
        rcases keyIs_shape p1 with ⟨i, t, ei, ek⟩ | ⟨x, t, ei, _⟩
        · cases ei
          obtain ⟨t2, ev⟩ := e2
          rw [List.map_cons, List.map_cons, List.map_cons, List.map_cons, List.map_cons, ek, p2, ev]
          exact ⟨ReadsAll.cons (as := []) (.int _ _) i1, ReadsAll.cons (as := []) (.int _ _) i2⟩
        · cases ei
section
variable {X : Cx} {K : PySem.W.Frag} {pins : List (Addr × Obj)} {σ : St} {H : Hp} {s : Shared}
theorem Bx.reads (I : Inv X pins σ H s) {x : V} {d : PyData} {u : Value} (h : Bx H x d) (r : RelV x u) : ∃ as, Reads s.heap u d as ∧ sysModules ∉ as := by
  cases h with
  | non => cases r; exact ⟨_, Reads.none, by simp⟩
  | bl b => cases r; exact ⟨_, Reads.bool b, by simp⟩
  | int i => obtain ⟨t, rfl⟩ := r; exact ⟨_, Reads.int i t, by simp⟩
  | str x => obtain ⟨t, rfl⟩ := r; exact ⟨_, Reads.str x t, by simp⟩
  | @dct a kvs e =>
    cases r
    obtain ⟨z, hm, vs, rk, o, es, ep, ho, hx, hd, _, hp, _⟩ := dk_of I.hok e
    obtain ⟨r1, r2⟩ := reads_kv (h := s.heap) rk hp
    refine ⟨_, Reads.dict ho hx.1 hd r1 r2, ?_⟩
    have : a ≠ sysModules := fun q => by rw [q] at hm; simp at hm
    simpa using Ne.symm this
theorem Bx.readsAll (I : Inv X pins σ H s) : ∀ {xs : List V} {ds : List PyData} {us : List Value}, Paired (Bx H) xs ds → Vals xs us → ∃ as, ReadsAll s.heap us ds as ∧ sysModules ∉ as
  | _, _, _, .nil, .nil => ⟨_, .nil, by simp⟩
  | _, _, _, .cons h t, .cons r q => by
    obtain ⟨as, r1, n1⟩ := h.reads I r
    obtain ⟨bs, r2, n2⟩ := Bx.readsAll I t q
    exact ⟨_, .cons r1 r2, by simp [n1, n2]⟩
def Rpr (K : PySem.W.Frag) (H : Hp) (x : V) (d : PyData) : Prop := Dp K H x d ∨ Bx H x d ∨ ∃ a xs ds, x = .ref a ∧ Paired (Bx H) xs ds ∧ ((H a = some (.tup xs) ∧ d = .tuple ds) ∨ (H a = some (.lst xs) ∧ a ≠ sysModules ∧ d = .list ds))
theorem Rpr.reads (I : Inv X pins σ H s) {x : V} {d : PyData} {u : Value} (h : Rpr X.K H x d) (r : RelV x u) : ∃ as, Reads s.heap u d as ∧ (d.hasDict = true → sysModules ∉ as) := by
  rcases h with h | h | ⟨a, xs, ds, rfl, hp, h⟩
  · obtain ⟨as, q⟩ := Dp.reads I d x u h r
    exact ⟨as, q, fun z => by rw [Dp.noDict d _ h] at z; cases z⟩
  · obtain ⟨as, q, n⟩ := h.reads I r
    exact ⟨as, q, fun _ => n⟩
  · cases r
    rcases h with ⟨h, rfl⟩ | ⟨h, ha, rfl⟩
    · obtain ⟨its, rv, ⟨o, ho, hc, n, hd⟩, _⟩ := I.tuple (SqT.of h)
      obtain ⟨as, hr, nn⟩ := Bx.readsAll I hp rv
      exact ⟨_, Reads.tuple ho hc hd hr, fun _ => nn⟩
    · obtain ⟨its, rv, ⟨o, n, ho, hc, _, hd⟩, _⟩ := I.list (SqL.of h)
      obtain ⟨as, hr, nn⟩ := Bx.readsAll I hp rv
      exact ⟨_, Reads.list ho hc hd hr, fun _ => by simp [Ne.symm ha, nn]⟩
def rReprT (K : PySem.W.Frag) : List V → Hp → VK → Prop := fun vs H Q => ∃ x d, vs = [x] ∧ Rpr K H x d ∧ Shown d ∧ Q (.str d.shown) H
theorem cr_reprT (hg : X.A.guards = some []) (hu : X.A.units + 64 < cLine) (hK : X.K = K := by rfl) : CallR X (.builtin "repr") (rReprT K) := by
  subst hK
  intro pins s σ H vs us Q I r h
  obtain ⟨x, d, rfl, hd, hs, q⟩ := h
  obtain ⟨u, rfl, ru⟩ := vals1 r
  obtain ⟨as, rr, hsm⟩ := hd.reads I ru
  have hdp := hs.dp
  have hsh := hs.sh
  have fits := hs.fits
  cases rr with
  | none => exact PySem.P.repr_of_none ⟨.str _, H, I.tok _, ⟨_, rfl⟩, q⟩
  | bool b => exact PySem.P.repr_of_bool ⟨.str _, H, I.tok _, ⟨_, rfl⟩, q⟩
  | int i t => exact PySem.P.repr_of_int (by simpa [PyData.showable] using hsh) ⟨.str _, H, I.tok _, ⟨_, rfl⟩, q⟩
  | str z t => exact PySem.P.repr_of_str ⟨.str _, H, I.tok _, ⟨_, rfl⟩, q⟩ fits
  | list h1 h2 h3 h4 => exact repr_of_reads' (.list h1 h2 h3 h4) hsh hsm hg (by omega) (fun _ _ e => e) (fun h' u tk hk => ⟨.str _, H, I.kept (t' := tk) hk, ⟨u, rfl⟩, q⟩) fits
  | tuple h1 h2 h3 h4 => exact repr_of_reads' (.tuple h1 h2 h3 h4) hsh hsm hg (by omega) (fun _ _ e => e) (fun h' u tk hk => ⟨.str _, H, I.kept (t' := tk) hk, ⟨u, rfl⟩, q⟩) fits
  | dict h1 h2 h3 h4 h5 => exact repr_of_reads' (.dict h1 h2 h3 h4 h5) hsh hsm hg (by omega) (fun _ _ e => e) (fun h' u tk hk => ⟨.str _, H, I.kept (t' := tk) hk, ⟨u, rfl⟩, q⟩) fits
end
end L2
namespace L2
open PySem PySem.Spec PyProof.Rows
section
variable {X : Cx}
def rNeN : R2 := fun x y H Q => ∃ a b xs, x = .ref a ∧ y = .ref b ∧ H a = some (.lst xs) ∧ H b = some (.lst []) ∧ Q (.bl (!xs.isEmpty)) H
theorem op_neN (hu : X.A.units + 64 < cLine) : OpR X (compareOp .NotEq) rNeN := by
  intro pins s σ H x y v u Q I rx ry h
  obtain ⟨a, b, xs, rfl, rfl, ha, hb, q⟩ := h
  cases xs with
  | nil => exact op_neD hu pins s σ H _ _ v u Q I rx ry ⟨.list [], .list [], .lst (SqL.of ha) .nil, .lst (SqL.of hb) .nil, by decide, by decide, q⟩
  | cons z zs =>
    cases rx
    cases ry
    obtain ⟨its, r1, p1, _⟩ := I.list (SqL.of ha)
    obtain ⟨its2, r2, p2, _⟩ := I.list (SqL.of hb)
    cases r2
    have hl := r1.length
    refine SeqAt.RcNeAt.lists_lengths p1.isList p2.isList ?_ (by omega) X.prog X.w X.xe _ ⟨.bl true, H, I, rfl, q⟩
    simp only [List.length_cons] at hl
    simp only [bne_iff_ne, ne_eq, List.size_toArray, List.length_nil]
    omega
end
def isI : V → Bool
  | .int _ => true
  | _ => false
def toI : V → Int
  | .int i => i
  | _ => 0
theorem ints_of : ∀ {xs : List V}, xs.all isI = true → (xs.map toI).map V.int = xs
  | [], _ => rfl
  | x :: xs, h => by
    rw [List.all_cons, Bool.and_eq_true] at h
    cases x with
    | int i => rw [List.map_cons, List.map_cons, ints_of h.2]; rfl
    | _ => exact absurd (show false = true from h.1) Bool.false_ne_true
def onceV (xs : List V) : Bool := xs.all isI && decide ((xs.map toI).Perm (Nm.upTo xs.length))
theorem sorted_once : ∀ {l m : List Int}, l.Perm m → l.Pairwise (· ≤ ·) → m.Pairwise (· ≤ ·) → l = m
  | [], m, p, _, _ => (List.Perm.nil_eq p)
  | a :: l, m, p, h1, h2 => by
    cases m with
    | nil => exact absurd p.length_eq (by simp)
    | cons b m =>
      have a1 := List.pairwise_cons.mp h1
      have b1 := List.pairwise_cons.mp h2
      have e : a = b := by
        have hb : b ∈ a :: l := p.mem_iff.mpr List.mem_cons_self
        have ha : a ∈ b :: m := p.mem_iff.mp List.mem_cons_self
        rcases List.mem_cons.mp hb with z | z
        · exact z.symm
        · rcases List.mem_cons.mp ha with y | y
          · exact y
          · have := a1.1 b z
            have := b1.1 a y
            omega
      subst e
      rw [sorted_once ((List.perm_cons a).mp p) a1.2 b1.2]
theorem upTo_sorted (n : Nat) : (Nm.upTo n).Pairwise (· ≤ ·) := by
  unfold Nm.upTo
  rw [List.pairwise_map]
  exact List.pairwise_lt_range.imp fun h => by omega
theorem once_sorted {ns ns' : List Int} {n : Nat} (p : ns'.Perm ns) (s : ns'.Pairwise (· ≤ ·)) : decide (ns' = Nm.upTo n) = decide (ns.Perm (Nm.upTo n)) := by
  rw [decide_eq_decide]
  constructor
  · intro e; rw [← e]; exact p.symm
  · intro q; exact sorted_once (p.trans q) s (upTo_sorted n)
theorem eqvAllI : ∀ xs ys : List Int, PyData.eqvAll (xs.map PyData.int) (ys.map PyData.int) = decide (xs = ys)
  | [], [] => rfl
  | [], _ :: _ => rfl
  | _ :: _, [] => rfl
  | x :: xs, y :: ys => by
    simp only [List.map_cons, PyData.eqvAll, PyData.eqv, eqvAllI xs ys]
    rw [Bool.eq_iff_iff]
    simp
theorem eqvLI (xs ys : List Int) : PyData.eqv (.list (xs.map PyData.int)) (.list (ys.map PyData.int)) = decide (xs = ys) := by
  simp only [PyData.eqv]
  exact eqvAllI xs ys
end L2
namespace L2
open PySem PySem.Spec PyProof.Rows
theorem Same.seqT {K : PySem.W.Frag} {H H' : Hp} {a : Addr} {xs : List V} (e : Same H H') (h : SqT K H a xs) : SqT K H' a xs := by
  rcases h with (h | ⟨o, h⟩) | h
  · exact .inl (.inl (e _ _ h))
  · exact .inl (.inr ⟨o, e _ _ h⟩)
  · exact .inr h
mutual
theorem Dp.same {K : PySem.W.Frag} {H H' : Hp} (s : Same H H') : ∀ (d : PyData) (v : V), Dp K H v d → Dp K H' v d
  | .none, _, h => by cases h; exact .non
  | .bool _, _, h => by cases h; exact .bl _
  | .int _, _, h => by cases h; exact .int _
  | .str _, _, h => by cases h; exact .str _
  | .list ds, _, h => by
    cases h with
    | lst hs ha => exact .lst (s.seq hs) (DpAll.same s ds _ ha)
  | .tuple ds, _, h => by
    cases h with
    | tup hs ha => exact .tup (s.seqT hs) (DpAll.same s ds _ ha)
  | .dict _, _, h => by cases h
theorem DpAll.same {K : PySem.W.Frag} {H H' : Hp} (s : Same H H') : ∀ (ds : List PyData) (vs : List V), DpAll K H vs ds → DpAll K H' vs ds
  | [], _, h => by cases h; exact .nil
  | d :: ds, _, h => by
    cases h with
    | cons h1 h2 => exact .cons (Dp.same s d _ h1) (DpAll.same s ds _ h2)
end
theorem Bx.same {H H' : Hp} (s : Same H H') {x : V} {d : PyData} (h : Bx H x d) : Bx H' x d := by
  cases h with
  | non => exact .non
  | bl b => exact .bl b
  | int i => exact .int i
  | str x => exact .str x
  | dct e => exact .dct (s _ _ e)
theorem Bx.sameAll {H H' : Hp} (s : Same H H') : ∀ {xs : List V} {ds : List PyData}, Paired (Bx H) xs ds → Paired (Bx H') xs ds
  | _, _, .nil => .nil
  | _, _, .cons h t => .cons (h.same s) (Bx.sameAll s t)
theorem Rpr.same {K : PySem.W.Frag} {H H' : Hp} (s : Same H H') {x : V} {d : PyData} (h : Rpr K H x d) : Rpr K H' x d := by
  rcases h with h | h | ⟨a, xs, ds, rfl, hp, h⟩
  · exact .inl (Dp.same s d x h)
  · exact .inr (.inl (h.same s))
  · exact .inr (.inr ⟨a, xs, ds, rfl, Bx.sameAll s hp, h.imp (fun z => ⟨s _ _ z.1, z.2⟩) (fun z => ⟨s _ _ z.1, z.2⟩)⟩)
structure Small (d : PyData) : Prop where
  sh : d.showable = true
  dp : d.depth ≤ 3
  lf : d.leavesShort 1922 = true
  wt : d.weight ≤ 150
theorem Small.int {i : Int} (h : i.natAbs.log2 < 140) : Small (.int i) := by
  have hL := int_text_length_le (a := i) (k := 140) (by decide) h
  refine ⟨by simp only [PyData.showable, decide_eq_true_eq]; omega, by simp [PyData.depth], ?_, ?_⟩
  · simp only [PyData.leavesShort, decide_eq_true_eq]
    show (Str.ofString (toString i)).length ≤ 1922
    rw [PySem.ofString_length]
    omega
  · simp only [PyData.weight]; split <;> omega
theorem Small.bool (b : Bool) : Small (.bool b) := ⟨rfl, by simp [PyData.depth], rfl, by simp [PyData.weight]⟩
theorem Small.none : Small .none := ⟨rfl, by simp [PyData.depth], rfl, by simp [PyData.weight]⟩
theorem Small.list {ds : List PyData} (h1 : ds.length ≤ 40) (h2 : ∀ d ∈ ds, Small d) : Shown (.list ds) ∧ Shown (.tuple ds) := by
  have a : ∀ ms : List PyData, (∀ d ∈ ms, Small d) → PyData.showableAll ms = true ∧ PyData.depthAll ms ≤ 3 ∧ PyData.leavesShortAll 1922 ms = true ∧ PyData.weightAll ms ≤ 151 * ms.length := by
    intro ms
    induction ms with
    | nil => intro _; exact ⟨rfl, by simp [PyData.depthAll], rfl, by simp [PyData.weightAll]⟩
    | cons m ms ih =>
      intro h
      obtain ⟨g1, g2, g3, g4⟩ := ih fun n hn => h n (List.mem_cons_of_mem _ hn)
      obtain ⟨m1, m2, m3, m4⟩ := h m List.mem_cons_self
      refine ⟨?_, ?_, ?_, ?_⟩
      · simp only [PyData.showableAll, g1, m1, Bool.and_true]
      · simp only [PyData.depthAll]; omega
      · simp only [PyData.leavesShortAll, g3, m3, Bool.and_true]
      · simp only [PyData.weightAll, List.length_cons]; omega
  obtain ⟨g1, g2, g3, g4⟩ := a ds h2
  refine ⟨⟨?_, ?_, ?_, ?_⟩, ⟨?_, ?_, ?_, ?_⟩⟩ <;> simp only [PyData.showable, PyData.depth, PyData.leavesShort, PyData.weight, g1, g3] <;> omega
theorem Small.shown {d : PyData} (h : Small d) : Shown d := ⟨h.sh, by have := h.dp; omega, h.lf, by have := h.wt; omega⟩
structure QA (X : Cx) (es : List Expr) (t : TA) : Prop where
  out : PA X es t
structure QE (X : Cx) (e : Expr) (t : TE) : Prop where
  out : PE X e t
theorem qa_nil {X : Cx} : QA X [] tNil := ⟨pa_nil⟩
theorem qa_cons {X : Cx} {e : Expr} {es : List Expr} {te : TE} {t : TA} (ha : PE X e te) (hr : QA X es t) (hs : starEach (e :: es) X.env = (false, eval e X.env) :: starEach es X.env := by rfl) : QA X (e :: es) (tCons te t) := ⟨pa_cons ha hr.out hs⟩
theorem qa_consQ {X : Cx} {e : Expr} {es : List Expr} {te : TE} {t : TA} (ha : QE X e te) (hr : QA X es t) (hs : starEach (e :: es) X.env = (false, eval e X.env) :: starEach es X.env := by rfl) : QA X (e :: es) (tCons te t) := ⟨pa_cons ha.out hr.out hs⟩
theorem qe_lst {X : Cx} {es : List Expr} {t : TA} {pos : Pos} (h : QA X es t) : QE X (.List es pos) (tLst t) := ⟨pe_lst h.out⟩
theorem qe_tup {X : Cx} {es : List Expr} {t : TA} {x1} {pos : Pos} (h : QA X es t) : QE X (.Tuple es x1 pos) (tTup t) := ⟨pe_tup h.out⟩
theorem qe_disp {X : Cx} {pos : Pos} {keys : List (Option Expr)} {values : List Expr} {trs : List (TE × TE)} (h : PPs X pos keys values trs) (hall : keys.all (·.isSome) = true) (hl : keys.length = values.length) (h0 : keys ≠ []) (h15 : keys.length ≤ 15) : QE X (.Dict keys values pos) (tDisp trs) := ⟨pe_disp h hall hl h0 h15⟩
theorem pe_lstQ {X : Cx} {es : List Expr} {t : TA} {pos : Pos} (h : QA X es t) : PE X (.List es pos) (tLst t) := pe_lst h.out
theorem pe_tupQ {X : Cx} {es : List Expr} {t : TA} {x1} {pos : Pos} (h : QA X es t) : PE X (.Tuple es x1 pos) (tTup t) := pe_tup h.out
end L2
namespace L2
open PySem PySem.Spec PyProof.Rows
section
variable {X : Cx} {CX : CXT} {k : Nat} {f C : Addr} {fd : FuncData} {ps : List Str} {sp : Sp} {E : XK} {A' : Around}
theorem run_at {pins : List (Addr × Obj)} {σ : St} {H : Hp} {s : Shared} {Q : VK} {us : List Value} {vs : List V} (F : FnOk X.prog X.w X.K X.mg X.base CX k f fd ps sp) (hr : Room k A') (hA : A'.frames = X.A.frames) (hb : Binds X.K fd ps [])
    (hx : Passes CX X E) (I : Inv X pins σ H s) (r : Vals vs us) (h : sp vs H Q E) : wpAny (model X.prog X.w) A' (call (.ref f) us) (EP X pins σ Q) X.xe s := by
  have hl : us.length = ps.length := by rw [← r.length]; exact F.len _ _ _ _ h
  have e0 : Env0 X.prog X.w X.K X.mg X.base A' X.stack s H := let e := I.env0; ⟨hA.trans e.frames, e.mod, e.bs, e.bsz, e.funs, e.frf, e.hok, e.bare⟩
  have hb' := hb s us I.kIn (by rw [List.append_nil]; exact hl)
  rw [List.append_nil] at hb'
  refine wpAny_call (codeAny_mono (F.run A' X.stack s H ⟨us, []⟩ us vs Q E hr e0 hb' r h) fun r s' hq => ?_)
  cases r with
  | error e => exact hx pins σ H s e s' I hq
  | ok fl =>
    cases fl with
    | ret u => exact I.after hq
    | next => exact False.elim hq
    | brk => exact False.elim hq
    | cont => exact False.elim hq
structure Mt (P : Program) (w : World) (K : PySem.W.Frag) (mg : Str → Option Value) (base : Heap) (C : Addr) (m : Str) (k : Nat) (ps : List Str) (sp : Sp) : Prop where
  ex : ∃ (f : Addr) (fd : FuncData), Meth K C m f ∧ Binds K fd ps [] ∧ FnOk P w K mg base CX0 k f fd ps sp
def rOwn (C : Addr) (sp : Sp) (ok : V → Prop) : List V → Hp → VK → Prop := fun vs H Q => ∃ a dx fs, vs = [.ref a] ∧ H a = some (.ins C dx fs) ∧ sp [.ref a] H (fun v H' => ok v ∧ Q v H') E0
def okLen (v : V) : Prop := ∃ n : Int, v = .int n ∧ 0 ≤ n ∧ n < 2 ^ 63
def okStr (v : V) : Prop := ∃ z : Str, v = .str z
variable {j : Nat}
theorem cr_lenI (M : Mt X.prog X.w X.K X.mg X.base C "__len__" k ps sp) (hr : Room j X.A) (hk : k + 1 ≤ j := by decide) : CallR X (.builtin "len") (rOwn C sp okLen) := by
  intro pins s σ H vs us Q I r h
  obtain ⟨f, fd, hm, hb, Fk⟩ := M.ex
  obtain ⟨a, dx, fs, rfl, ha, h⟩ := h
  rw [Vals.ref1 r]
  obtain ⟨mA, O, _⟩ := ins_get I.hok ha
  obtain ⟨od, IA, _⟩ := O.look
  obtain ⟨m, fr⟩ := I.fr
  refine PySem.W.len_K fr I.ok.mod.kin IA hm.at_ hm.fn (thn (run_at (vs := [.ref a]) Fk (hr.mono hk).in1 rfl hb pass0 I (.cons rfl .nil) h) fun u s' ⟨x, H', I', rx, ⟨n, e, h0, h1⟩, q⟩ => ?_)
  subst e
  obtain ⟨t, rfl⟩ := rx
  exact ⟨⟨h0, h1⟩, .int n, H', I'.tok _, ⟨_, rfl⟩, q⟩
theorem cr_reprI (M : Mt X.prog X.w X.K X.mg X.base C "__repr__" k ps sp) (hr : Room j X.A) (hk : k + 1 ≤ j := by decide) : CallR X (.builtin "repr") (rOwn C sp okStr) := by
  intro pins s σ H vs us Q I r h
  obtain ⟨f, fd, hm, hb, Fk⟩ := M.ex
  obtain ⟨a, dx, fs, rfl, ha, h⟩ := h
  rw [Vals.ref1 r]
  obtain ⟨mA, O, _⟩ := ins_get I.hok ha
  obtain ⟨od, IA, _⟩ := O.look
  obtain ⟨m, fr⟩ := I.fr
  have hr1 := (hr.mono hk).in1
  refine PySem.W.repr_K (by have := hr1.un; omega) fr I.ok.mod.kin IA hm.at_ hm.fn (thn (run_at (vs := [.ref a]) Fk hr1 rfl hb pass0 I (.cons rfl .nil) h) fun u s' ⟨x, H', I', rx, ⟨z, e⟩, q⟩ => ?_)
  subst e
  obtain ⟨t, rfl⟩ := rx
  exact ⟨.str z, H', I', ⟨_, rfl⟩, q⟩
def CmpK (K : PySem.W.Frag) (C : Addr) (H : Hp) (y : V) : Prop := (∃ k, kdOf H y = some k) ∨ ∃ b dx fs, y = .ref b ∧ H b = some (.ins C dx fs)
theorem notFirst_kd {K : PySem.W.Frag} {C : Addr} (k : Kd) : PySem.W.notFirst K C (.type k.name) = true := by
  unfold PySem.W.notFirst PySem.W.subIn
  cases k <;> rfl
theorem ty_looks {M : Model} {pins : List (Addr × Obj)} {σ : St} {H : Hp} {s : Shared} {x : V} {u : Value} {k : Kd} (I : Inv X pins σ H s) (r : RelV x u) (h : kdOf H x = some k) : PySem.W.Looks M s.heap (typeOf u) (.type k.name) := by
  have ty := kd_ty (K := X.K) h
  generalize hk : Value.type k.name = t at ty ⊢
  cases ty with
  | non => cases (show u = Value.none from r); exact .now
  | bl y => cases (show u = Value.bool y from r); exact .now
  | int i => obtain ⟨t, q⟩ := (show ∃ t, u = Value.int i t from r); cases q; exact .now
  | str y => obtain ⟨t, q⟩ := (show ∃ t, u = Value.str y t from r); cases q; exact .now
  | flt y => obtain ⟨t, q⟩ := (show ∃ t, u = Value.float y t from r); cases q; exact .now
  | @lst a xs ea =>
    cases (show u = Value.ref a from r)
    obtain ⟨_, _, n, _, h1⟩ := (show ObjOk X.prog X.w H s.heap a (.lst xs) from I.hok a _ ea)
    exact (PySem.W.Looks.ld h1).andThen .now
  | @frz a ob xs ea =>
    cases (show u = Value.ref a from r)
    obtain ⟨_, _, _, n, _, h1⟩ := (show ObjOk X.prog X.w H s.heap a (.frz ob (.lst xs)) from I.hok a _ ea)
    exact (PySem.W.Looks.ld h1).andThen .now
  | @tup a xs ea =>
    cases (show u = Value.ref a from r)
    obtain ⟨_, _, _, p⟩ := (show ObjOk X.prog X.w H s.heap a (.tup xs) from I.hok a _ ea)
    obtain ⟨o, h1, h2, _⟩ := p
    rw [← h2]
    exact (PySem.W.Looks.ld h1).andThen .now
  | @dK a kvs ea =>
    cases (show u = Value.ref a from r)
    obtain ⟨_, _, vs, _, p⟩ := (show ObjOk X.prog X.w H s.heap a (.dK kvs) from I.hok a _ ea)
    obtain ⟨o, es, ep, h1, h2, _⟩ := p
    rw [← h2.1]
    exact (PySem.W.Looks.ld h1).andThen .now
  | @dT a kvs ea =>
    cases (show u = Value.ref a from r)
    obtain ⟨_, _, xs, _, o, es, ep, h1, h2, _⟩ := (show ObjOk X.prog X.w H s.heap a (.dT kvs) from I.hok a _ ea)
    rw [← h2.1]
    exact (PySem.W.Looks.ld h1).andThen .now
  | @ins a C dx fs ea cl ha hn htk hm => cases hk
theorem cmp_looks {M : Model} {pins : List (Addr × Obj)} {σ : St} {H : Hp} {s : Shared} {y : V} {u : Value} (I : Inv X pins σ H s) (r : RelV y u) (h : CmpK X.K C H y) : ∃ tb, PySem.W.Looks M s.heap (typeOf u) tb ∧ PySem.W.notFirst X.K C tb = true := by
  rcases h with ⟨k, hk⟩ | ⟨b, dx, fs, rfl, hb⟩
  · exact ⟨_, ty_looks I r hk, notFirst_kd k⟩
  · cases (show u = Value.ref b from r)
    obtain ⟨mA, O, _⟩ := ins_get I.hok hb
    obtain ⟨od, IA, _⟩ := O.look
    exact ⟨_, IA.type, by unfold PySem.W.notFirst; simp⟩
def rEqI (K : PySem.W.Frag) (C : Addr) (sp : Sp) : R2 := fun x y H Q => ∃ a dx fs, x = .ref a ∧ H a = some (.ins C dx fs) ∧ CmpK K C H y ∧ sp [x, y] H (fun v H' => ∃ b, v = .bl b ∧ Q (.bl b) H') E0
theorem op_eqI (M : Mt X.prog X.w X.K X.mg X.base C "__eq__" k ps sp) (hr : Room j X.A) (hk : k ≤ j := by decide) : OpR X (compareOp .Eq) (rEqI X.K C sp) := by
  intro pins s σ H x y v u Q I rx ry h
  obtain ⟨f, fd, hm, hb, Fk⟩ := M.ex
  obtain ⟨a, dx, fs, rfl, ha, hc, h⟩ := h
  cases (show v = Value.ref a from rx)
  obtain ⟨mA, O, _⟩ := ins_get I.hok ha
  obtain ⟨od, IA, _⟩ := O.look
  obtain ⟨m, fr⟩ := I.fr
  obtain ⟨tb, l1, l2⟩ := cmp_looks (M := model X.prog X.w) I ry hc
  refine PySem.W.cmp_K (op := .Eq) (by have := hr.un; omega) fr I.ok.mod.kin IA l1 l2 hm.at_ hm.fn (thn (run_at (vs := [.ref a, y]) Fk (hr.mono hk) rfl hb pass0 I (.cons rfl (.cons ry .nil)) h) fun r s' ⟨x, H', I', rx, ⟨b, e, q⟩⟩ => ?_)
  subst e
  cases (show r = Value.bool b from rx)
  exact ⟨.bl b, H', I', rfl, q⟩
end
end L2
namespace L2
end L2
namespace L2
end L2
namespace L2
end L2
namespace L2
open PySem PySem.Spec PyProof.Rows
section
variable {X : Cx} {K : PySem.W.Frag} {k j : Nat} {C : Addr} {ps : List Str} {sp : Sp}
theorem pe_fldK {e : Expr} {ta : TE} {f : Str} {pos : Pos} (he : PE X e ta) (hb : attributeBase e f X.env (eval e X.env) = eval e X.env := by rfl) (hK : X.K = K := by rfl) : PE X (.Attribute e f pos) (tFld K ta f) := by subst hK; exact pe_fld he hb
def rIsC (K : PySem.W.Frag) (C : Addr) : List V → Hp → VK → Prop := fun vs H Q => ∃ x t b, vs = [x, .ref C] ∧ TyOf K H x t ∧ PySem.W.kitOne K t (.ref C) = some b ∧ Q (.bl b) H
theorem cr_isC (hK : X.K = K := by rfl) : CallR X (.builtin "isinstance") (rIsC K C) := by
  subst hK
  intro pins s σ H vs us Q I r h
  obtain ⟨x, t, b, rfl, ht, hk, q⟩ := h
  obtain ⟨u, w', rfl, ru, rw'⟩ := vals2 r
  cases (show w' = Value.ref C from rw')
  exact isinst_ok I ru ht hk fun tk => ⟨.bl _, H, I.tok _, rfl, q⟩
theorem op_isB : OpR X (compareOp .Is) (fun x y H Q => ∃ a b, x = .bl a ∧ y = .bl b ∧ Q (.bl (a == b)) H) := by
  intro pins s σ H x y v u Q I rx ry h
  obtain ⟨a, b, rfl, rfl, q⟩ := h
  cases (show v = Value.bool a from rx)
  cases (show u = Value.bool b from ry)
  cases a <;> cases b <;> exact wpAny_bind (wpAny_pure (wpAny_pure ⟨.bl _, H, I, rfl, q⟩))
end
end L2
namespace L2
open PySem PySem.Spec PyProof.Rows PySem.MeetsSeq PySem.MeetsSeq2 PySem.MeetsSeq3
section
variable {X : Cx} {K : PySem.W.Frag}
abbrev TJ := Str → St → Hp → (Str → Hp → Prop) → Prop
def PJ (X : Cx) (es : List Expr) (t : TJ) : Prop := ∀ (pins : List (Addr × Obj)) (s : Shared) (σ : St) (H : Hp) (acc : Str) (Q : Str → Hp → Prop), Inv X pins σ H s → t acc σ H Q →
  Joins (model X.prog X.w) X.A X.xe (evalEach es X.env) acc (fun out s1 => out.length ≤ sizeLine ∧ ∃ H', Inv X pins σ H' s1 ∧ Q out H') s
def tJn : TJ := fun acc _ H Q => acc.length ≤ sizeLine ∧ Q acc H
def tJc (te : TE) (t : TJ) : TJ := fun acc σ H Q => te σ H fun x H1 => ∃ y, x = .str y ∧ (acc ++ y).length ≤ sizeLine ∧ t (acc ++ y) σ H1 Q
theorem pj_nil : PJ X [] tJn := fun _ _ _ H _ _ I h => ⟨h.1, H, I, h.2⟩
theorem pj_cons {e : Expr} {es : List Expr} {te : TE} {t : TJ} (he : PE X e te) (hr : PJ X es t) (hs : evalEach (e :: es) X.env = eval e X.env :: evalEach es X.env := by rfl) : PJ X (e :: es) (tJc te t) := by
  intro pins s σ H acc Q I h
  rw [hs]
  refine thn (he pins s σ H _ I h) fun u s1 ⟨x, H1, I1, rx, y, ex, hz, q⟩ => ?_
  subst ex
  obtain ⟨t, rfl⟩ := rx
  exact ⟨y, t, rfl, hz, hr pins s1 σ H1 _ Q I1 q⟩
def tJoin (t : TJ) : TE := fun σ H Q => t Str.empty σ H fun out H1 => Q (.str out) H1
theorem joins_mono {M : Model} {A : Around} {E : Value → Shared → Prop} : ∀ (ps : List (Sem Value)) (acc : Str) {Q Q' : Str → Shared → Prop} {s : Shared}, Joins M A E ps acc Q s → (∀ o s, Q o s → Q' o s) → Joins M A E ps acc Q' s
  | [], _, _, _, _, h, f => f _ _ h
  | _ :: ps, _, _, _, _, h, f => wpAny_mono h (fun v s1 ⟨y, t, e, hz, hr⟩ => ⟨y, t, e, hz, joins_mono ps _ hr f⟩) fun _ _ z => z
theorem pe_joined {v1 v2 : Expr} {rest : List Expr} {pos : Pos} {t : TJ} (h : PJ X (v1 :: v2 :: rest) t) : PE X (.JoinedStr (v1 :: v2 :: rest) pos) (tJoin t) := by
  intro pins s σ H Q I hq
  refine wpAny_JoinedStr (joins_mono _ _ (h pins s σ H _ _ I hq) fun o s1 ⟨hz, H', I', q⟩ => ⟨hz, .str o, H', I'.tok _, ⟨_, rfl⟩, q⟩)
end
end L2
namespace L2
open PySem PySem.Spec PyProof.Rows
structure ShownB (d : PyData) : Prop where
  sh : d.showable = true
  dp : d.depth ≤ 16
  fits : d.shown.length ≤ sizeLine
theorem Shown.big {d : PyData} (h : Shown d) : ShownB d := ⟨h.sh, h.dp, h.fits⟩
theorem ShownB.of {d : PyData} (sh : d.showable = true) (dp : d.depth ≤ 16) (lf : d.leavesShort 40 = true) (wt : d.weight ≤ 350000) : ShownB d := ⟨sh, dp, by
  have := PyData.shown_le 40 (by decide) d lf
  rw [sizeLine_eq]; omega⟩
section
variable {X : Cx} {K : PySem.W.Frag}
def tFmtB (K : PySem.W.Frag) (te : TE) : TE := fun σ H Q => te σ H fun x H1 => ∃ a d, x = .ref a ∧ Dp K H1 (.ref a) d ∧ ShownB d ∧ Q (.str d.shown) H1
theorem pe_fmtB {e : Expr} {te : TE} {pos : Pos} (hg : X.A.guards = some []) (hu : X.A.units + 64 < cLine) (he : PE X e te) (hK : X.K = K := by rfl) : PE X (.FormattedValue e (-1) none pos) (tFmtB K te) := by
  subst hK
  intro pins s σ H Q I h
  refine wpAny_FormattedValue_plain (thn (he pins s σ H _ I h) fun u s1 ⟨x, H1, I1, rx, a, d, ex, hd, hs, q⟩ => ?_)
  subst ex
  cases (show u = Value.ref a from rx)
  obtain ⟨as, rr⟩ := Dp.reads I1 d _ _ hd rfl
  have hdp := hs.dp
  exact formatField_of_reads rr hs.sh (PyData.noDict_hsm (Dp.noDict d _ hd)) hg (by omega) (fun _ _ e => e) (fun h' u tk hk => ⟨.str d.shown, H1, I1.kept (t' := tk) hk, ⟨u, rfl⟩, q⟩) hs.fits
variable {k j : Nat} {C a0 : Addr} {ps : List Str} {sp : Sp} {x m : Str} {e o : Expr} {es : List Expr} {ta : TE} {t : TA} {p pos apos : Pos}
structure MkF (P : Program) (w : World) (K : PySem.W.Frag) (mg : Str → Option Value) (base : Heap) (x : Str) (C : Addr) (k : Nat) (ps : List Str) (ds : List Value) (sp : Sp) : Prop where
  ex : ∃ (f : Addr) (fd : FuncData), Mk K C f ∧ mg x = some (.ref C) ∧ Binds K fd ps ds ∧ FnOk P w K mg base CX0 k f fd ps sp
theorem pe_mk (M : MkF X.prog X.w X.K X.mg X.base x C k ps [] sp) (hr : Room j X.A) (ha : PA X (e :: es) t) (hk : k + 1 ≤ j := by decide) (hg : Gl X x := by rfl) (hdb : (x == ("__debug__" : Str)) = false := by decide)
    (he : starEach (e :: es) X.env = (false, eval e X.env) :: starEach es X.env := by rfl) (hpl : (backTo pos (starEach es X.env)).any (·.1) = false := by rfl) : PE X (.Call (.Name x p) (e :: es) [] pos) (tMake C sp [] E0 t) := by
  obtain ⟨f, fd, h1, h2, h3, h4⟩ := M.ex
  exact pe_make h1 h4 (hr.mono hk) hg h2 h3 .nil pass0 ha hdb he hpl
theorem ps_fldK {value : Expr} {tv : TE} {f : Str} {pos' : Pos} (ho : PE X o ta) (hv : PE X value tv) (hs : swapsWith value (some (.Attribute o f pos')) pos.line X.env = pure false := by rfl) (hK : X.K = K := by rfl) : PS X (.Assign [.Attribute o f pos'] value pos) (sFld K ta tv f) := by
  subst hK; exact ps_fld ho hv hs
end
section
variable {X : Cx} {K : PySem.W.Frag}
def rIsiQ (K : PySem.W.Frag) : List V → Hp → VK → Prop := fun vs H Q => ∃ a p xs, vs = [.ref a, .ref p] ∧ H p = some (.tup ([Kd.lst, Kd.tup].map fun c => V.ty (Kd.name c))) ∧ (SqL K H a xs ∨ SqT K H a xs) ∧ Q (.bl true) H
theorem cr_isiQ (hK : X.K = K := by rfl) : CallR X (.builtin "isinstance") (rIsiQ K) := by
  subst hK
  intro pins s σ H vs us Q I r h
  obtain ⟨a, p, xs, rfl, hp, hx, q⟩ := h
  obtain ⟨u, w', rfl, ru, rw'⟩ := vals2 r
  cases (show u = Value.ref a from ru)
  cases (show w' = Value.ref p from rw')
  obtain ⟨_, its, rv, o, e1, c1, d1, n, dd⟩ := (show ObjOk X.prog X.w H s.heap p (.tup _) from I.hok p _ hp)
  rw [vals_ty rv] at dd
  obtain ⟨oc, od, oD, osl⟩ := o
  simp only at c1 dd
  subst c1 dd
  have fin : ∀ tk, EP X pins σ Q (.bool true) { s with toks := tk } := fun tk => ⟨.bl _, H, I.tok _, rfl, q⟩
  rcases hx with hx | hx
  · obtain ⟨its, _, ⟨o, n, h1, h2, _⟩, _⟩ := I.list hx
    exact PySem.W.kia_tup PySem.W.kitx_list I.kIn ⟨o, h1, h2⟩ e1 (kit_any Kd.lst [Kd.lst, Kd.tup]) (fun z => nomatch z) fin
  · obtain ⟨its, _, ⟨o, h1, h2, _⟩, _⟩ := I.tuple hx
    exact PySem.W.kia_tup PySem.W.kitx_tuple I.kIn ⟨o, h1, h2⟩ e1 (kit_any Kd.tup [Kd.lst, Kd.tup]) (fun z => nomatch z) fin
end
section
variable {X : Cx}
def rTupE : List V → Hp → VK → Prop := fun xs H Q => ∃ p ys, xs = [.ref p] ∧ (H p = some (.lst ys) ∨ H p = some (.tup ys)) ∧ ∀ (l : Addr) (H' : Hp), Same H H' → H' l = some (.tup ys) → Q (.ref l) H'
theorem call_tupE : CallR X (.type "tuple") rTupE := by
  intro pins s σ H vs us Q I r h
  obtain ⟨p, ys, rfl, hp, q⟩ := h
  rcases hp with hp | hp
  · exact call_tuple_of pins s σ H _ us Q I r ⟨p, ys, rfl, .inl ⟨SqL.of hp, fun l hl => q l _ (Same.new hl) upd_same⟩⟩
  · exact call_tuple_of pins s σ H _ us Q I r ⟨p, ys, rfl, .inr ⟨SqT.of hp, q p H (Same.refl _) hp⟩⟩
end
theorem pe_ixQ {X : Cx} {r : R2} {a b : Expr} {ta tb : TE} {pos : Pos} (hr : IxR X r) (ha : QE X a ta) (hb : PE X b tb) (hs : PlainIx b) : PE X (.Subscript a b pos) (tOp r ta tb) := pe_ix hr ha.out hb hs
abbrev R3 := Int × Int × Int
def tlR (r : R3) : List Int := [r.1, r.2.1, r.2.2]
def kvR (r : R3) : List Key × V := ([Sum.inl r.1, Sum.inl r.2.1], V.int r.2.2)
def prR (r : R3) : Int × Int := (r.1, r.2.1)
def lkR (E : List R3) (a b : Int) : Option Int := (E.find? fun r => decide (prR r = (a, b))).map (·.2.2)
def mkR (E : List R3) (a b : Int) : Int := (lkR E a b).getD 0
theorem valV_kvR (a b : Int) : ∀ E : List R3, valV (E.map kvR) [Sum.inl a, Sum.inl b] = (lkR E a b).map V.int
  | [] => rfl
  | r :: E => by
    have ih := valV_kvR a b E
    by_cases h : prR r = (a, b)
    · have h1 : (kvR r).1 = [Sum.inl a, Sum.inl b] := by
        have h2 : r.1 = a ∧ r.2.1 = b := by simpa [prR] using h
        simp [kvR, h2.1, h2.2]
      rw [List.map_cons, valV_pos h1]
      simp [lkR, List.find?_cons, h, kvR]
    · have h1 : ¬ (kvR r).1 = [Sum.inl a, Sum.inl b] := by
        intro z
        apply h
        simp only [kvR, List.cons.injEq, Sum.inl.injEq, and_true] at z
        simp [prR, z.1, z.2]
      rw [List.map_cons, valV_neg h1, ih]
      simp [lkR, List.find?_cons, h]
theorem lkR_none {E : List R3} {a b : Int} : lkR E a b = none ↔ ∀ r ∈ E, prR r ≠ (a, b) := by
  unfold lkR
  rw [Option.map_eq_none_iff, List.find?_eq_none]
  exact ⟨fun h r hr z => h r hr (by simpa using z), fun h r hr z => h r hr (by simpa using z)⟩
theorem lkR_some {E : List R3} {a b m : Int} (h : lkR E a b = some m) : (a, b, m) ∈ E := by
  unfold lkR at h
  obtain ⟨r, hr, rfl⟩ := Option.map_eq_some_iff.mp h
  have h1 := List.mem_of_find?_eq_some hr
  have h2 := List.find?_some hr
  have h3 : prR r = (a, b) := by simpa using h2
  have : r = (a, b, r.2.2) := by
    obtain ⟨x, y, z⟩ := r
    simp only [prR, Prod.mk.injEq] at h3
    simp [h3.1, h3.2]
  rw [← this]; exact h1
theorem lkR_mem {E : List R3} {a b m : Int} (nd : (E.map prR).Nodup) (h : (a, b, m) ∈ E) : lkR E a b = some m := by
  induction E with
  | nil => cases h
  | cons r E ih =>
    rw [List.map_cons, List.nodup_cons] at nd
    rcases List.mem_cons.mp h with e | h
    · subst e; simp [lkR, List.find?_cons, prR]
    · have hne : ¬ prR r = (a, b) := fun z => nd.1 (List.mem_map.mpr ⟨_, h, by rw [z]; rfl⟩)
      have := ih nd.2 h
      unfold lkR at this ⊢
      rw [List.find?_cons]
      simp only [hne, decide_false]
      exact this
theorem lkR_perm {E E' : List R3} (p : E.Perm E') (nd : (E.map prR).Nodup) (a b : Int) : lkR E a b = lkR E' a b := by
  have nd' : (E'.map prR).Nodup := (p.map prR).nodup_iff.mp nd
  cases h : lkR E a b with
  | some m => exact (lkR_mem nd' (p.mem_iff.mp (lkR_some h))).symm
  | none =>
    refine (lkR_none.mpr fun r hr => lkR_none.mp h r (p.mem_iff.mpr hr)).symm
def SrtR (E : List R3) : Prop := E.Pairwise fun x y => HT.lexLt (tlR y) (tlR x) = false
theorem lex3 (x y : R3) : HT.lexLt (tlR x) (tlR y) = decide (x.1 < y.1 ∨ (x.1 = y.1 ∧ (x.2.1 < y.2.1 ∨ (x.2.1 = y.2.1 ∧ x.2.2 < y.2.2)))) := by
  obtain ⟨a, b, c⟩ := x
  obtain ⟨a', b', c'⟩ := y
  show HT.lexLt [a, b, c] [a', b', c'] = _
  rw [HT.lexLt_cons, HT.lexLt_cons, HT.lexLt_cons, HT.lexLt_nil_nil]
  by_cases h1 : a = a'
  · subst h1
    by_cases h2 : b = b'
    · subst h2
      by_cases h3 : c = c'
      · subst h3; simp
      · simp [h3]
    · simp [h2]
  · simp [h1]
theorem srt_uniq : ∀ {l m : List R3}, l.Perm m → SrtR l → SrtR m → l = m
  | [], m, p, _, _ => (List.Perm.nil_eq p)
  | a :: l, m, p, h1, h2 => by
    cases m with
    | nil => exact absurd p.length_eq (by simp)
    | cons b m =>
      have a1 := List.pairwise_cons.mp h1
      have b1 := List.pairwise_cons.mp h2
      have e : a = b := by
        have hb : b ∈ a :: l := p.mem_iff.mpr List.mem_cons_self
        have ha : a ∈ b :: m := p.mem_iff.mp List.mem_cons_self
        rcases List.mem_cons.mp hb with z | z
        · exact z.symm
        · rcases List.mem_cons.mp ha with y | y
          · exact y
          · have g1 := a1.1 b z
            have g2 := b1.1 a y
            rw [lex3, decide_eq_false_iff_not] at g1 g2
            obtain ⟨x1, x2, x3⟩ := a
            obtain ⟨y1, y2, y3⟩ := b
            simp only at g1 g2
            have e1 : x1 = y1 := by omega
            have e2 : x2 = y2 := by omega
            have e3 : x3 = y3 := by omega
            rw [e1, e2, e3]
      subst e
      rw [srt_uniq ((List.perm_cons a).mp p) a1.2 b1.2]
end L2
namespace Kx
end Kx
namespace Kx
end Kx
namespace Kx
open PySem L2 PyProof.Rows
namespace Tx
def L (s : Str) : List Nat := s.cps.toList
def isD (c : Nat) : Bool := decide (c = 45) || (decide (48 ≤ c) && decide (c ≤ 57))
theorem map_inj {l m : List Char} (h : l.map Char.toNat = m.map Char.toNat) : l = m := by
  induction l generalizing m with
  | nil => cases m with
    | nil => rfl
    | cons _ _ => cases h
  | cons x l ih => cases m with
    | nil => cases h
    | cons y m =>
      rw [List.map_cons, List.map_cons] at h
      injection h with h1 h2
      rw [ih h2, Char.toNat_inj.mp h1]
def head (c : Nat) : Prop := isD c = true ∨ c = 91 ∨ c = 40
end Tx
end Kx
namespace ST
open PySem
def Rise (xs : Array Nat) : Prop := ∀ (i j x y : Nat), i < j → xs[i]? = some x → xs[j]? = some y → x < y
theorem Rise.le {xs : Array Nat} (h : Rise xs) {i j x y : Nat} (hij : i ≤ j) (hx : xs[i]? = some x) (hy : xs[j]? = some y) : x ≤ y := by
  rcases Nat.lt_or_eq_of_le hij with q | q
  · exact Nat.le_of_lt (h i j x y q hx hy)
  · subst q
    rw [hx] at hy
    cases hy
    exact Nat.le_refl _
theorem below_go {xs : Array Nat} {j : Nat} (h : Rise xs) : ∀ (fuel lo hi : Nat), hi ≤ xs.size → hi - lo ≤ fuel → lo ≤ hi → (∀ i x, xs[i]? = some x → i < lo → x < j) → (∀ i x, xs[i]? = some x → hi ≤ i → j ≤ x) →
    SetTable.below.go xs j fuel lo hi ≤ xs.size ∧ ∀ i x, xs[i]? = some x → (i < SetTable.below.go xs j fuel lo hi → x < j) ∧ (SetTable.below.go xs j fuel lo hi ≤ i → j ≤ x)
  | 0, lo, hi, h1, h2, h3, ha, hb => by
    have e : lo = hi := by omega
    subst e
    unfold SetTable.below.go
    exact ⟨h1, fun i x hx => ⟨ha i x hx, hb i x hx⟩⟩
  | fuel + 1, lo, hi, h1, h2, h3, ha, hb => by
    unfold SetTable.below.go
    by_cases c : lo < hi
    · rw [if_pos c]
      dsimp only
      have hm : (lo + hi) / 2 < xs.size := by omega
      have hg : xs[(lo + hi) / 2]? = some xs[(lo + hi) / 2] := Array.getElem?_eq_getElem hm
      have hd : xs.getD ((lo + hi) / 2) j = xs[(lo + hi) / 2] := by simp [Array.getD, hm]
      rw [hd]
      by_cases q : xs[(lo + hi) / 2] < j
      · rw [if_pos q]
        refine below_go h fuel _ hi h1 (by omega) (by omega) (fun i x hx hi' => ?_) hb
        exact Nat.lt_of_le_of_lt (h.le (show i ≤ (lo + hi) / 2 by omega) hx hg) q
      · rw [if_neg q]
        refine below_go h fuel lo _ (by omega) (by omega) (by omega) ha fun i x hx hi' => ?_
        exact Nat.le_trans (Nat.le_of_not_lt q) (h.le hi' hg hx)
    · rw [if_neg c]
      have e : lo = hi := by omega
      subst e
      exact ⟨h1, fun i x hx => ⟨ha i x hx, hb i x hx⟩⟩
theorem below_le {xs : Array Nat} (h : Rise xs) (j : Nat) : SetTable.below xs j ≤ xs.size :=
  (below_go h xs.size 0 xs.size (Nat.le_refl _) (Nat.sub_le _ _) (Nat.zero_le _) (fun i x _ z => absurd z (Nat.not_lt_zero _)) fun i x hx hi => by
    have := (Array.getElem?_eq_some_iff.mp hx).1
    omega).1
theorem below_iff {xs : Array Nat} (h : Rise xs) {j i x : Nat} (hx : xs[i]? = some x) : i < SetTable.below xs j ↔ x < j := by
  have q := (below_go (j := j) h xs.size 0 xs.size (Nat.le_refl _) (Nat.sub_le _ _) (Nat.zero_le _) (fun i x _ z => absurd z (Nat.not_lt_zero _)) fun i x hx hi => by
    have := (Array.getElem?_eq_some_iff.mp hx).1
    omega).2 i x hx
  constructor
  · exact q.1
  · intro z
    refine Nat.lt_of_not_le fun r => ?_
    have := q.2 r
    omega
theorem below_at {xs : Array Nat} (h : Rise xs) {i x : Nat} (hx : xs[i]? = some x) : SetTable.below xs x = i := by
  have l := below_le h x
  have a : ¬ i < SetTable.below xs x := fun q => Nat.lt_irrefl _ ((below_iff h (j := x) hx).mp q)
  refine Nat.le_antisymm (Nat.le_of_not_lt a) (Nat.le_of_not_lt fun q => ?_)
  have hi := (Array.getElem?_eq_some_iff.mp hx).1
  have hg : xs[SetTable.below xs x]? = some xs[SetTable.below xs x] := Array.getElem?_eq_getElem (by omega)
  have b := h _ _ _ _ q hg hx
  exact Nat.lt_irrefl _ ((below_iff h (j := x) hg).mpr b)
theorem insert_get {α : Type} {xs : Array α} {p : Nat} {x : α} (hp : p ≤ xs.size) (i : Nat) : (SetTable.insertAt xs p x)[i]? = if i < p then xs[i]? else if i = p then some x else xs[i - 1]? := by
  have e : (SetTable.insertAt xs p x).toList = xs.toList.take p ++ x :: xs.toList.drop p := by
    rw [SetTable.toList_insertAt]
  rw [← Array.getElem?_toList, e]
  have hl : (xs.toList.take p).length = p := by rw [List.length_take, Array.length_toList]; omega
  by_cases c : i < p
  · rw [if_pos c, List.getElem?_append_left (by omega), List.getElem?_take, if_pos c, Array.getElem?_toList]
  · rw [if_neg c, List.getElem?_append_right (by omega), hl]
    by_cases d : i = p
    · subst d
      simp
    · rw [if_neg d]
      obtain ⟨k, hk⟩ : ∃ k, i - p = k + 1 := ⟨i - p - 1, by omega⟩
      rw [hk, List.getElem?_cons_succ, List.getElem?_drop, Array.getElem?_toList]
      congr 1
      omega
theorem Rise.insert {xs : Array Nat} (h : Rise xs) {j : Nat} (hn : ∀ i : Nat, xs[i]? ≠ some j) : Rise (SetTable.insertAt xs (SetTable.below xs j) j) := by
  have l := below_le h j
  have lo : ∀ i x : Nat, xs[i]? = some x → i < SetTable.below xs j → x < j := fun i x hx q => (below_iff h hx).mp q
  have hi : ∀ i x : Nat, xs[i]? = some x → ¬ i < SetTable.below xs j → j < x := fun i x hx q => by
    have : ¬ x < j := fun z => q ((below_iff h hx).mpr z)
    have : x ≠ j := fun z => hn i (by rw [hx, z])
    omega
  generalize SetTable.below xs j = p at l lo hi
  intro a b x y hab hx hy
  rw [insert_get l] at hx hy
  by_cases c1 : a < p
  · rw [if_pos c1] at hx
    by_cases c2 : b < p
    · rw [if_pos c2] at hy; exact h a b x y hab hx hy
    · rw [if_neg c2] at hy
      by_cases c3 : b = p
      · rw [if_pos c3] at hy; cases hy; exact lo a x hx c1
      · rw [if_neg c3] at hy
        exact Nat.lt_trans (lo a x hx c1) (hi _ y hy (by omega))
  · rw [if_neg c1] at hx
    have c2 : ¬ b < p := by omega
    have c3 : b ≠ p := by omega
    rw [if_neg c2, if_neg c3] at hy
    by_cases c4 : a = p
    · rw [if_pos c4] at hx; cases hx; exact hi _ y hy (by omega)
    · rw [if_neg c4] at hx
      exact h (a - 1) (b - 1) x y (by omega) hx hy
theorem slot_live {t : SetTable} (h : Rise t.place) {i j : Nat} (hx : t.place[i]? = some j) : t.slot j = .live i := by
  unfold SetTable.slot
  simp only [below_at h hx, hx, BEq.rfl, if_true]
theorem slot_empty {t : SetTable} (h : Rise t.place) (hd : t.dummies = #[]) {j : Nat} (hn : ∀ i : Nat, t.place[i]? ≠ some j) : t.slot j = .empty := by
  unfold SetTable.slot
  have e1 : (t.place[SetTable.below t.place j]? == some j) = false := by
    rw [beq_eq_false_iff_ne]; exact hn _
  have e2 : SetTable.has t.dummies j = false := by rw [hd]; rfl
  simp only [e1, e2, Bool.false_eq_true, if_false]
def nextP (mask : Nat) (p : SetTable.Probe) : SetTable.Probe :=
  if p.more > 0 then { p with j := p.j + 1, more := p.more - 1 } else
  { p with j := (p.i * 5 + 1 + p.perturb / 32) % (mask + 1), more := SetTable.runEnd mask ((p.i * 5 + 1 + p.perturb / 32) % (mask + 1)) - (p.i * 5 + 1 + p.perturb / 32) % (mask + 1), i := (p.i * 5 + 1 + p.perturb / 32) % (mask + 1), perturb := p.perturb / 32 }
theorem advance_eq (t : SetTable) (p : SetTable.Probe) : t.advance p = nextP t.mask p := by
  unfold SetTable.advance nextP SetTable.leap
  split <;> rfl
def road (mask : Nat) (p : SetTable.Probe) : Nat → SetTable.Probe
  | 0 => p
  | k + 1 => road mask (nextP mask p) k
theorem road_add (mask : Nat) : ∀ (a b : Nat) (p : SetTable.Probe), road mask p (a + b) = road mask (road mask p a) b
  | 0, b, p => by rw [Nat.zero_add]; rfl
  | a + 1, b, p => by
    rw [Nat.succ_add]
    show road mask (nextP mask p) (a + b) = _
    rw [road_add mask a b]; rfl
def atLeap (mask i perturb : Nat) (d : Option Nat) : SetTable.Probe := { j := i, more := SetTable.runEnd mask i - i, i, perturb, dummy := d }
theorem run_road (mask : Nat) : ∀ (m : Nat) (p : SetTable.Probe), p.more = m → ∃ k, k = m + 1 ∧ road mask p k = atLeap mask ((p.i * 5 + 1 + p.perturb / 32) % (mask + 1)) (p.perturb / 32) p.dummy
  | 0, p, h => by
    refine ⟨1, rfl, ?_⟩
    show nextP mask p = _
    unfold nextP atLeap
    rw [if_neg (by omega)]
  | m + 1, p, h => by
    obtain ⟨k, hk, e⟩ := run_road mask m (nextP mask p) (by unfold nextP; rw [if_pos (by omega)]; show p.more - 1 = m; omega)
    refine ⟨k + 1, by omega, ?_⟩
    show road mask (nextP mask p) k = _
    rw [e]
    unfold nextP
    rw [if_pos (by omega)]
theorem runEnd_le (mask i : Nat) : SetTable.runEnd mask i - i ≤ 9 := by
  unfold SetTable.runEnd
  split <;> omega
def leapI (mask : Nat) : Nat → Nat → Nat → Nat × Nat
  | 0, i, p => (i, p)
  | n + 1, i, p => leapI mask n ((i * 5 + 1 + p / 32) % (mask + 1)) (p / 32)
theorem leap_road (mask : Nat) (d : Option Nat) : ∀ (n i p : Nat), ∃ k, k ≤ 10 * n ∧ road mask (atLeap mask i p d) k = atLeap mask (leapI mask n i p).1 (leapI mask n i p).2 d
  | 0, i, p => ⟨0, Nat.le_refl _, rfl⟩
  | n + 1, i, p => by
    obtain ⟨k1, h1, e1⟩ := run_road mask _ (atLeap mask i p d) rfl
    obtain ⟨k2, h2, e2⟩ := leap_road mask d n ((i * 5 + 1 + p / 32) % (mask + 1)) (p / 32)
    have := runEnd_le mask i
    have hm : (atLeap mask i p d).more = SetTable.runEnd mask i - i := rfl
    refine ⟨k1 + k2, by omega, ?_⟩
    rw [road_add, e1]
    exact e2
theorem leap_calm (mask : Nat) : ∀ (n m i p : Nat), leapI mask (n + m) i p = leapI mask m (leapI mask n i p).1 (leapI mask n i p).2
  | 0, m, i, p => by rw [Nat.zero_add]; rfl
  | n + 1, m, i, p => by
    rw [Nat.succ_add]
    show leapI mask (n + m) _ _ = _
    rw [leap_calm mask n m]; rfl
theorem leap_pert (mask : Nat) : ∀ (n i p : Nat), (leapI mask n i p).2 = p / 32 ^ n
  | 0, i, p => by show p = p / 1; rw [Nat.div_one]
  | n + 1, i, p => by
    show (leapI mask n _ (p / 32)).2 = _
    rw [leap_pert mask n, Nat.div_div_eq_div_mul, Nat.pow_succ, Nat.mul_comm]
theorem leap_in (mask : Nat) : ∀ (n i p : Nat), i ≤ mask → (leapI mask n i p).1 ≤ mask
  | 0, i, p, h => h
  | n + 1, i, p, h => leap_in mask n _ _ (by have := Nat.mod_lt (i * 5 + 1 + p / 32) (show 0 < mask + 1 by omega); omega)
def Two (mask : Nat) : Prop := mask = 7 ∨ mask = 31 ∨ mask = 127
theorem cyc7 : ∀ a : Fin 8, ∀ b : Fin 8, ∃ n : Fin 8, (leapI 7 n.val a.val 0).1 = b.val := by decide +kernel
theorem cyc31 : ∀ a : Fin 32, ∀ b : Fin 32, ∃ n : Fin 32, (leapI 31 n.val a.val 0).1 = b.val := by decide +kernel
theorem orb127 : ∀ a : Fin 128, ∃ n : Fin 128, (leapI 127 n.val 0 0).1 = a.val := by decide +kernel
theorem round127 : (leapI 127 128 0 0).1 = 0 := by decide +kernel
theorem orb_add (k n : Nat) : (leapI 127 n (leapI 127 k 0 0).1 0).1 = (leapI 127 (k + n) 0 0).1 := by
  have hp : (leapI 127 k 0 0).2 = 0 := by rw [leap_pert]; exact Nat.zero_div _
  rw [leap_calm, hp]
theorem cyc127 {a b : Nat} (ha : a ≤ 127) (hb : b ≤ 127) : ∃ n, n ≤ 127 ∧ (leapI 127 n a 0).1 = b := by
  obtain ⟨k, ek⟩ := orb127 ⟨a, by omega⟩
  obtain ⟨l, el⟩ := orb127 ⟨b, by omega⟩
  simp only at ek el
  have hk := k.isLt
  have hl := l.isLt
  by_cases h : k.val ≤ l.val
  · refine ⟨l.val - k.val, by omega, ?_⟩
    rw [← ek, orb_add, show k.val + (l.val - k.val) = l.val by omega]; exact el
  · refine ⟨128 + l.val - k.val, by omega, ?_⟩
    rw [← ek, orb_add, show k.val + (128 + l.val - k.val) = 128 + l.val by omega]
    have := orb_add 128 l.val
    rw [round127] at this
    rw [← this]; exact el
theorem cyc {mask : Nat} (h : Two mask) {a b : Nat} (ha : a ≤ mask) (hb : b ≤ mask) : ∃ n, n ≤ mask ∧ (leapI mask n a 0).1 = b := by
  rcases h with rfl | rfl | rfl
  · obtain ⟨n, e⟩ := cyc7 ⟨a, by omega⟩ ⟨b, by omega⟩
    exact ⟨n.val, by have := n.isLt; omega, e⟩
  · obtain ⟨n, e⟩ := cyc31 ⟨a, by omega⟩ ⟨b, by omega⟩
    exact ⟨n.val, by have := n.isLt; omega, e⟩
  · exact cyc127 ha hb
theorem bits_lt (h : Int) : SetTable.bits h < 2 ^ 64 := by
  unfold SetTable.bits
  have h1 := Int.emod_lt_of_pos h (show (0 : Int) < 2 ^ 64 by decide)
  have h2 := Int.emod_nonneg h (show (2 ^ 64 : Int) ≠ 0 by decide)
  have : ((2 ^ 64 : Nat) : Int) = (2 ^ 64 : Int) := by norm_cast
  omega
theorem road_meets {mask : Nat} (h2 : Two mask) (h : Int) (d : Option Nat) {b : Nat} (hb : b ≤ mask) : ∃ k, k ≤ 10 * (13 + mask) ∧ (road mask (atLeap mask (SetTable.bits h % (mask + 1)) (SetTable.bits h) d) k).j = b := by
  have hi : SetTable.bits h % (mask + 1) ≤ mask := by have := Nat.mod_lt (SetTable.bits h) (show 0 < mask + 1 by omega); omega
  have hp : (leapI mask 13 (SetTable.bits h % (mask + 1)) (SetTable.bits h)).2 = 0 := by
    rw [leap_pert]
    exact Nat.div_eq_of_lt (Nat.lt_of_lt_of_le (bits_lt h) (by decide))
  obtain ⟨n, hn, e⟩ := cyc h2 (leap_in mask 13 _ (SetTable.bits h) hi) hb
  obtain ⟨k, hk, ek⟩ := leap_road mask d (13 + n) (SetTable.bits h % (mask + 1)) (SetTable.bits h)
  refine ⟨k, by omega, ?_⟩
  rw [ek, leap_calm, hp]
  exact e
end ST
namespace ST
open PySem
abbrev start (mask : Nat) (h : Int) : SetTable.Probe := atLeap mask (SetTable.bits h % (mask + 1)) (SetTable.bits h) none
theorem runEnd_in {mask i : Nat} (h : i ≤ mask) : i + (SetTable.runEnd mask i - i) ≤ mask := by
  unfold SetTable.runEnd
  split <;> omega
theorem next_in {mask : Nat} {p : SetTable.Probe} (h : p.j + p.more ≤ mask) : (nextP mask p).j + (nextP mask p).more ≤ mask := by
  unfold nextP
  split
  · show p.j + 1 + (p.more - 1) ≤ mask
    omega
  · have := Nat.mod_lt (p.i * 5 + 1 + p.perturb / 32) (show 0 < mask + 1 by omega)
    exact runEnd_in (i := (p.i * 5 + 1 + p.perturb / 32) % (mask + 1)) (by omega)
theorem road_in {mask : Nat} : ∀ (k : Nat) {p : SetTable.Probe}, p.j + p.more ≤ mask → (road mask p k).j + (road mask p k).more ≤ mask
  | 0, p, h => h
  | k + 1, p, h => road_in k (next_in h)
theorem start_in (mask : Nat) (h : Int) : (start mask h).j + (start mask h).more ≤ mask := by
  have := Nat.mod_lt (SetTable.bits h) (show 0 < mask + 1 by omega)
  exact runEnd_in (i := SetTable.bits h % (mask + 1)) (by omega)
theorem next_dummy (mask : Nat) (p : SetTable.Probe) : (nextP mask p).dummy = p.dummy := by
  unfold nextP
  split <;> rfl
theorem least {P : Nat → Prop} (dec : ∀ k, P k ∨ ¬ P k) : ∀ {n : Nat}, P n → ∃ k, k ≤ n ∧ P k ∧ ∀ k' < k, ¬ P k' := by
  intro n
  induction n using Nat.strongRecOn with
  | ind n ih =>
    intro h
    by_cases c : ∃ m, m < n ∧ P m
    · obtain ⟨m, hm, hp⟩ := c
      obtain ⟨k, a, b⟩ := ih m hm hp
      exact ⟨k, by omega, b⟩
    · exact ⟨n, Nat.le_refl _, h, fun k' hk z => c ⟨k', hk, z⟩⟩
theorem sub_len2 {l m : List Nat} (nd : l.Nodup) (s : ∀ x ∈ l, x ∈ m) : l.length ≤ m.length := by
  induction l generalizing m with
  | nil => exact Nat.zero_le _
  | cons x l ih =>
    have h2 := List.nodup_cons.mp nd
    have hx := s x List.mem_cons_self
    have := ih (m := m.erase x) h2.2 fun y hy => (List.mem_erase_of_ne (fun z => h2.1 (by rw [← z]; exact hy))).mpr (s y (List.mem_cons_of_mem _ hy))
    rw [List.length_erase_of_mem hx] at this
    have := List.length_pos_of_mem hx
    rw [List.length_cons]
    omega
structure Tab (t : SetTable) (n : Nat) : Prop where
  two : Two t.mask
  dum : t.dummies = #[]
  rise : Rise t.place
  inn : ∀ i x : Nat, t.place[i]? = some x → x ≤ t.mask
  size : t.place.size = n
  room : n * 5 < t.mask * 3
  plain : t.plain = true
theorem some_free {t : SetTable} {n : Nat} (hs : t.place.size = n) (h : n ≤ t.mask) : ∃ b, b ≤ t.mask ∧ ∀ i : Nat, t.place[i]? ≠ some b := by
  refine Classical.byContradiction fun c => ?_
  have all : ∀ b ∈ List.range (t.mask + 1), b ∈ t.place.toList := fun b hb => by
    rw [List.mem_range] at hb
    refine Classical.byContradiction fun d => c ⟨b, by omega, fun i z => d ?_⟩
    rw [← Array.getElem?_toList] at z
    exact List.mem_of_getElem? z
  have := sub_len2 List.nodup_range all
  rw [List.length_range, Array.length_toList, hs] at this
  omega
theorem first_empty {t : SetTable} {n : Nat} (two : Two t.mask) (hs : t.place.size = n) (hm : n ≤ t.mask) (h : Int) : ∃ k, k ≤ 10 * (13 + t.mask) ∧ (∀ i : Nat, t.place[i]? ≠ some (road t.mask (start t.mask h) k).j) ∧
    (∀ k' < k, ∃ i : Nat, t.place[i]? = some (road t.mask (start t.mask h) k').j) ∧ (road t.mask (start t.mask h) k).j ≤ t.mask := by
  obtain ⟨b, hb, free⟩ := some_free hs hm
  obtain ⟨m, hm2, e⟩ := road_meets two h none hb
  obtain ⟨k, k1, k2, k3⟩ := least (P := fun k => ∀ i : Nat, t.place[i]? ≠ some (road t.mask (start t.mask h) k).j) (fun k => Classical.em _) (n := m) (fun i => by show t.place[i]? ≠ some (road t.mask (start t.mask h) m).j; rw [show (road t.mask (start t.mask h) m).j = b from e]; exact free i)
  refine ⟨k, by omega, k2, fun k' hk => ?_, ?_⟩
  · have := k3 k' hk
    refine Classical.byContradiction fun c => this fun i z => c ⟨i, z⟩
  · have := road_in k (start_in t.mask h)
    omega
theorem go_empty {t : SetTable} (rise : Rise t.place) (dum : t.dummies = #[]) (hashAt : Nat → Int) (h : Int) : ∀ (fuel : Nat) (p : SetTable.Probe) (k : Nat), k < fuel → (∀ i : Nat, t.place[i]? ≠ some (road t.mask p k).j) →
    (∀ k' < k, ∃ i : Nat, t.place[i]? = some (road t.mask p k').j ∧ (hashAt i == h) = false) → SetTable.probe.go t hashAt h fuel p = some (.empty (road t.mask p k).j p.dummy)
  | 0, p, k, hk, _, _ => absurd hk (Nat.not_lt_zero _)
  | fuel + 1, p, 0, hk, he, _ => by
    unfold SetTable.probe.go
    rw [slot_empty rise dum (j := p.j) he]
    rfl
  | fuel + 1, p, k + 1, hk, he, hl => by
    obtain ⟨i, hi, hn⟩ := hl 0 (Nat.succ_pos _)
    unfold SetTable.probe.go
    rw [slot_live rise (j := p.j) hi]
    simp only [hn, Bool.false_eq_true, if_false]
    rw [advance_eq]
    have := go_empty rise dum hashAt h fuel (nextP t.mask p) k (by omega) he (fun k' hk' => hl (k' + 1) (by omega))
    rw [this, next_dummy]
    rfl
def Path (t : SetTable) (h : Int) (j : Nat) : Prop := ∃ k, (road t.mask (start t.mask h) k).j = j ∧ ∀ k' < k, ∃ i : Nat, t.place[i]? = some (road t.mask (start t.mask h) k').j
theorem free_slot {t : SetTable} {n : Nat} (T : Tab t n) (h : Int) : ∃ j, t.freeSlot h = some (j, false) ∧ j ≤ t.mask ∧ (∀ i : Nat, t.place[i]? ≠ some j) ∧ Path t h j := by
  have hm : n ≤ t.mask := by have := T.room; omega
  obtain ⟨k, k1, k2, k3, k4⟩ := first_empty T.two T.size hm h
  have e : t.probe (fun _ => h + 1) h (t.probeStart h) = some (.empty (road t.mask (start t.mask h) k).j none) := by
    unfold SetTable.probe SetTable.turns
    exact go_empty T.rise T.dum _ h _ _ k (by omega) k2 fun k' hk => by
      obtain ⟨i, hi⟩ := k3 k' hk
      refine ⟨i, hi, ?_⟩
      rw [beq_eq_false_iff_ne]
      omega
  refine ⟨(road t.mask (start t.mask h) k).j, ?_, k4, k2, k, rfl, k3⟩
  unfold SetTable.freeSlot
  rw [e]
  rfl
def more (t : SetTable) (j : Nat) : SetTable := { t with place := SetTable.insertAt t.place (SetTable.below t.place j) j }
theorem insert_size {α : Type} (xs : Array α) (p : Nat) (x : α) : (SetTable.insertAt xs p x).size = xs.size + 1 := by
  have := (SetTable.insertAt_perm xs p x).length_eq
  rw [Array.length_toList, Array.length_toList, Array.size_push] at this
  exact this
theorem put_eq {t : SetTable} (hd : t.dummies = #[]) (j : Nat) : t.put j = (more t j, SetTable.below t.place j) := by
  unfold SetTable.put more
  have : SetTable.has t.dummies j = false := by rw [hd]; rfl
  simp only [this, Bool.false_eq_true, if_false]
theorem insert_mem {xs : Array Nat} {p j x : Nat} : (∃ i : Nat, (SetTable.insertAt xs p j)[i]? = some x) ↔ (∃ i : Nat, xs[i]? = some x) ∨ x = j := by
  have e : ∀ (ys : Array Nat), (∃ i : Nat, ys[i]? = some x) ↔ x ∈ ys.toList := fun ys => by
    rw [List.mem_iff_getElem?]
    constructor
    · rintro ⟨i, h⟩; exact ⟨i, by rw [Array.getElem?_toList]; exact h⟩
    · rintro ⟨i, h⟩; exact ⟨i, by rw [← Array.getElem?_toList]; exact h⟩
  rw [e, e, (SetTable.insertAt_perm xs p j).mem_iff, Array.toList_push, List.mem_append, List.mem_singleton]
structure Tab0 (t : SetTable) (n : Nat) : Prop where
  two : Two t.mask
  dum : t.dummies = #[]
  rise : Rise t.place
  inn : ∀ i x : Nat, t.place[i]? = some x → x ≤ t.mask
  size : t.place.size = n
  room : n ≤ t.mask
  plain : t.plain = true
theorem Tab.more {t : SetTable} {n : Nat} (T : Tab t n) {j : Nat} (hj : j ≤ t.mask) (hn : ∀ i : Nat, t.place[i]? ≠ some j) : Tab0 (more t j) (n + 1) := by
  refine ⟨T.two, T.dum, T.rise.insert hn, fun i x hx => ?_, ?_, ?_, T.plain⟩
  · rcases insert_mem.mp ⟨i, hx⟩ with ⟨i', h'⟩ | rfl
    · exact T.inn i' x h'
    · exact hj
  · show (SetTable.insertAt t.place _ j).size = n + 1
    rw [insert_size, T.size]
  · have := T.room
    show n + 1 ≤ t.mask
    omega
theorem Tab0.fits {t : SetTable} {n : Nat} (T : Tab0 t n) : t.fits n = true := by
  unfold SetTable.fits SetTable.fill
  rw [T.dum, T.size]
  have := T.room
  simp [this]
theorem Tab.zero {t : SetTable} {n : Nat} (T : Tab t n) : Tab0 t n := ⟨T.two, T.dum, T.rise, T.inn, T.size, by have := T.room; omega, T.plain⟩
theorem Tab0.full {t : SetTable} {n : Nat} (T : Tab0 t n) (h : t.tooFull = false) : Tab t n := by
  refine ⟨T.two, T.dum, T.rise, T.inn, T.size, ?_, T.plain⟩
  unfold SetTable.tooFull SetTable.fill at h
  rw [T.dum, T.size] at h
  simpa using h
theorem Path.more {t : SetTable} {h : Int} {j j' : Nat} (p : Path t h j) : Path (more t j') h j := by
  obtain ⟨k, e, l⟩ := p
  refine ⟨k, e, fun k' hk => ?_⟩
  obtain ⟨i, hi⟩ := l k' hk
  exact insert_mem.mpr (.inl ⟨i, hi⟩)
theorem lay_new {t : SetTable} {es : Array (Int × Value)} {n : Nat} (T : Tab t n) (he : es.size = n) (h : Int) (x : Value) : ∃ j, layNew t es h x = (SetTable.insertAt es (SetTable.below t.place j) (h, x), more t j, false, false) ∧ Tab0 (more t j) (n + 1) ∧ Path t h j ∧ (∀ i : Nat, t.place[i]? ≠ some j) := by
  obtain ⟨j, e, hj, hn, hp⟩ := free_slot T h
  have T0 := T.more hj hn
  refine ⟨j, ?_, T0, hp, hn⟩
  unfold layNew
  rw [e]
  simp only [put_eq T.dum]
  have hs : (SetTable.insertAt es (SetTable.below t.place j) (h, x)).size = n + 1 := by rw [insert_size, he]
  rw [hs]
  unfold SetTable.orStandIn
  rw [T0.fits]
  rfl
end ST
namespace ST
open PySem
theorem road_run (mask : Nat) : ∀ (k : Nat) (p : SetTable.Probe), k ≤ p.more → (road mask p k).j = p.j + k
  | 0, p, _ => rfl
  | k + 1, p, h => by
    have e : nextP mask p = { p with j := p.j + 1, more := p.more - 1 } := by unfold nextP; rw [if_pos (by omega)]
    have := road_run mask k (nextP mask p) (by rw [e]; show k ≤ p.more - 1; omega)
    show (road mask (nextP mask p) k).j = _
    rw [this, e]
    show p.j + 1 + k = _
    omega
theorem find_range {p : Nat → Bool} : ∀ {n k : Nat}, (List.range n).find? p = some k → k < n ∧ p k = true ∧ ∀ m < k, p m = false := by
  intro n k h
  have h1 := List.find?_some h
  have h2 := List.mem_range.mp (List.mem_of_find?_eq_some h)
  refine ⟨h2, h1, fun m hm => ?_⟩
  rw [List.find?_eq_some_iff_getElem] at h
  obtain ⟨_, i, hi, e, l⟩ := h
  rw [List.getElem_range] at e
  subst e
  have := l m hm
  rw [List.getElem_range] at this
  simpa using this
def lp (owner : Array (Option Nat)) (j : Nat) : Prop := ∃ v, owner[j]? = some (some v)
theorem free_spec {mask : Nat} {owner : Array (Option Nat)} (hs : owner.size = mask + 1) : ∀ (fuel i p : Nat), i ≤ mask →
    (∃ j, SetTable.layClean.free mask owner fuel i p = some j ∧ owner[j]? = some none ∧ j ≤ mask ∧ ∃ K, (road mask (atLeap mask i p none) K).j = j ∧ ∀ K' < K, lp owner (road mask (atLeap mask i p none) K').j) ∨
    (∀ m < fuel, lp owner (leapI mask m i p).1)
  | 0, i, p, hi => .inr fun m hm => absurd hm (Nat.not_lt_zero _)
  | fuel + 1, i, p, hi => by
    have re := runEnd_in hi
    have hmo : (atLeap mask i p none).more = SetTable.runEnd mask i - i := rfl
    have rge : i ≤ SetTable.runEnd mask i := by unfold SetTable.runEnd; split <;> omega
    have at_ : ∀ k, i + k ≤ mask → ((owner.getD (i + k) (some 0)).isNone = true → owner[i + k]? = some none) ∧ ((owner.getD (i + k) (some 0)).isNone = false → lp owner (i + k)) := fun k hk => by
      have hl : i + k < owner.size := by omega
      have e : owner[i + k]? = some owner[i + k] := Array.getElem?_eq_getElem hl
      have e2 : owner.getD (i + k) (some 0) = owner[i + k] := by simp [Array.getD, hl]
      rw [e2]
      refine ⟨fun z => ?_, fun z => ?_⟩
      · rw [e, Option.isNone_iff_eq_none.mp z]
      · cases q : owner[i + k] with
        | none => rw [q] at z; cases z
        | some v => exact ⟨v, by rw [e, q]⟩
    unfold SetTable.layClean.free
    cases hf : (List.range (SetTable.runEnd mask i + 1 - i)).find? (fun k => (owner.getD (i + k) (some 0)).isNone) with
    | some k =>
      obtain ⟨k1, k2, k3⟩ := find_range hf
      refine .inl ⟨i + k, rfl, (at_ k (by omega)).1 k2, by omega, k, ?_, fun K' hK => ?_⟩
      · exact road_run mask k _ (by rw [hmo]; omega)
      · rw [road_run mask K' _ (by rw [hmo]; omega)]
        exact (at_ K' (by omega)).2 (k3 K' hK)
    | none =>
      have all : ∀ k, k ≤ SetTable.runEnd mask i - i → lp owner (i + k) := fun k hk => by
        have := List.find?_eq_none.mp hf k (List.mem_range.mpr (by omega))
        exact (at_ k (by omega)).2 (Bool.eq_false_iff.mpr this)
      have hi' : (i * 5 + 1 + p / 32) % (mask + 1) ≤ mask := by
        have := Nat.mod_lt (i * 5 + 1 + p / 32) (show 0 < mask + 1 by omega)
        omega
      show (∃ j, SetTable.layClean.free mask owner fuel ((i * 5 + 1 + p / 32) % (mask + 1)) (p / 32) = some j ∧ _) ∨ _
      rcases free_spec hs fuel ((i * 5 + 1 + p / 32) % (mask + 1)) (p / 32) hi' with ⟨j, e, hn, hj, K, rK, lK⟩ | h
      · refine .inl ⟨j, e, hn, hj, ?_⟩
        obtain ⟨k0, hk0, e0⟩ := run_road mask _ (atLeap mask i p none) rfl
        rw [hmo] at hk0
        refine ⟨k0 + K, ?_, fun K' hK => ?_⟩
        · rw [road_add, e0]; exact rK
        · by_cases c : K' < k0
          · rw [road_run mask K' _ (by rw [hmo]; omega)]
            exact all K' (by omega)
          · obtain ⟨d, rfl⟩ : ∃ d, K' = k0 + d := ⟨K' - k0, by omega⟩
            rw [road_add, e0]
            exact lK d (by omega)
      · refine .inr fun m hm => ?_
        cases m with
        | zero => exact all 0 (Nat.zero_le _)
        | succ m => exact h m (by omega)
structure Own (mask : Nat) (owner : Array (Option Nat)) (hs : List Int) : Prop where
  size : owner.size = mask + 1
  ex : ∀ v h, hs[v]? = some h → ∃ j, j ≤ mask ∧ owner[j]? = some (some v) ∧ ∃ K, (road mask (start mask h) K).j = j ∧ ∀ K' < K, lp owner (road mask (start mask h) K').j
  lt : ∀ (j v : Nat), owner[j]? = some (some v) → v < hs.length
  inj : ∀ (j j' v : Nat), owner[j]? = some (some v) → owner[j']? = some (some v) → j = j'
theorem own_free {mask : Nat} {owner : Array (Option Nat)} {hs : List Int} (O : Own mask owner hs) (h : hs.length ≤ mask) : ∃ b, b ≤ mask ∧ owner[b]? = some none := by
  refine Classical.byContradiction fun c => ?_
  have all : ∀ b, b ≤ mask → ∃ v, owner[b]? = some (some v) := fun b hb => by
    have hbs : b < owner.size := by have := O.size; omega
    have e : owner[b]? = some owner[b] := Array.getElem?_eq_getElem hbs
    cases q : owner[b] with
    | none => exact absurd ⟨b, hb, by rw [e, q]⟩ c
    | some v => exact ⟨v, by rw [e, q]⟩
  have nd : ((List.range (mask + 1)).map fun b => ((owner[b]?).getD none).getD 0).Nodup := by
    rw [List.nodup_iff_pairwise_ne, List.pairwise_map]
    refine (List.nodup_iff_pairwise_ne.mp List.nodup_range).imp_of_mem fun {a b} ha hb ne e => ne ?_
    obtain ⟨v, hv⟩ := all a (by have := List.mem_range.mp ha; omega)
    obtain ⟨v', hv'⟩ := all b (by have := List.mem_range.mp hb; omega)
    rw [hv, hv'] at e
    have e : v = v' := e
    subst e
    exact O.inj a b v hv hv'
  have := sub_len2 (m := List.range hs.length) nd fun x hx => by
    obtain ⟨b, hb, rfl⟩ := List.mem_map.mp hx
    obtain ⟨v, hv⟩ := all b (by have := List.mem_range.mp hb; omega)
    rw [hv]
    exact List.mem_range.mpr (O.lt b v hv)
  rw [List.length_map, List.length_range, List.length_range] at this
  omega
theorem own_step {mask : Nat} (two : Two mask) {owner : Array (Option Nat)} {hs : List Int} (O : Own mask owner hs) (hm : hs.length ≤ mask) (h : Int) : ∃ j, SetTable.layClean.free mask owner (SetTable.turns mask) (SetTable.bits h % (mask + 1)) (SetTable.bits h) = some j ∧ Own mask (owner.setIfInBounds j (some hs.length)) (hs ++ [h]) := by
  have hi : SetTable.bits h % (mask + 1) ≤ mask := by
    have := Nat.mod_lt (SetTable.bits h) (show 0 < mask + 1 by omega)
    omega
  rcases free_spec O.size (SetTable.turns mask) _ (SetTable.bits h) hi with ⟨j, e, hn, hj, K, rK, lK⟩ | all
  · have hjs : j < owner.size := by have := O.size; omega
    have g : ∀ i : Nat, (owner.setIfInBounds j (some hs.length))[i]? = if i = j then some (some hs.length) else owner[i]? := fun i => by
      rw [Array.getElem?_setIfInBounds]
      by_cases c : i = j
      · subst c; simp [hjs]
      · rw [if_neg (Ne.symm c), if_neg c]
    have up : ∀ i, lp owner i → lp (owner.setIfInBounds j (some hs.length)) i := fun i hi => by
      unfold lp
      rw [g]
      by_cases c : i = j
      · exact ⟨_, by rw [if_pos c]⟩
      · rw [if_neg c]; exact hi
    refine ⟨j, e, ⟨by simpa using O.size, fun v h' hv => ?_, fun i v hv => ?_, fun i i' v hv hv' => ?_⟩⟩
    · by_cases c : v < hs.length
      · rw [List.getElem?_append_left c] at hv
        obtain ⟨i, h1, h2, K2, r2, l2⟩ := O.ex v h' hv
        refine ⟨i, h1, ?_, K2, r2, fun K' hK => up _ (l2 K' hK)⟩
        rw [g, if_neg (fun z => by rw [z, hn] at h2; cases h2)]
        exact h2
      · have hvl : v = hs.length := by
          have := (List.getElem?_eq_some_iff.mp hv).1
          rw [List.length_append, List.length_singleton] at this
          omega
        subst hvl
        rw [List.getElem?_append_right (Nat.le_refl _), Nat.sub_self] at hv
        cases hv
        refine ⟨j, hj, by rw [g, if_pos rfl], K, rK, fun K' hK => up _ (lK K' hK)⟩
    · rw [g] at hv
      rw [List.length_append, List.length_singleton]
      by_cases c : i = j
      · rw [if_pos c] at hv; cases hv; omega
      · rw [if_neg c] at hv
        have := O.lt i v hv
        omega
    · rw [g] at hv hv'
      by_cases c : i = j
      · rw [if_pos c] at hv
        cases hv
        by_cases c' : i' = j
        · rw [c, c']
        · rw [if_neg c'] at hv'
          have := O.lt i' _ hv'
          omega
      · rw [if_neg c] at hv
        by_cases c' : i' = j
        · rw [if_pos c'] at hv'
          cases hv'
          have := O.lt i _ hv
          omega
        · rw [if_neg c'] at hv'
          exact O.inj i i' v hv hv'
  · exfalso
    obtain ⟨b, hb, hbn⟩ := own_free O hm
    have hp : (leapI mask 13 (SetTable.bits h % (mask + 1)) (SetTable.bits h)).2 = 0 := by
      rw [leap_pert]
      exact Nat.div_eq_of_lt (Nat.lt_of_lt_of_le (bits_lt h) (by decide))
    obtain ⟨m, hm2, e⟩ := cyc two (leap_in mask 13 _ (SetTable.bits h) hi) hb
    obtain ⟨v, hv⟩ := all (13 + m) (by unfold SetTable.turns; omega)
    rw [leap_calm, hp, e, hbn] at hv
    cases hv
theorem own_nil (mask : Nat) : Own mask (Array.replicate (mask + 1) none) [] := by
  have no : ∀ (j v : Nat), (Array.replicate (mask + 1) (none : Option Nat))[j]? = some (some v) → False := fun j v h => by
    rw [Array.getElem?_replicate] at h
    split at h <;> cases h
  exact ⟨by simp, fun v h hv => by simp at hv, fun j v h => (no j v h).elim, fun j j' v h => (no j v h).elim⟩
theorem own_fold {mask : Nat} (two : Two mask) : ∀ (l : List Int) (owner : Array (Option Nat)) (hs : List Int), Own mask owner hs → hs.length + l.length ≤ mask + 1 →
    ∃ owner', (l.foldl (fun acc h => do
      let (owner, k) ← acc
      let j ← SetTable.layClean.free mask owner (SetTable.turns mask) (SetTable.bits h % (mask + 1)) (SetTable.bits h)
      pure (owner.setIfInBounds j (some k), k + 1)) (some (owner, hs.length)) = some (owner', hs.length + l.length)) ∧ Own mask owner' (hs ++ l)
  | [], owner, hs, O, _ => ⟨owner, rfl, by rw [List.append_nil]; exact O⟩
  | h :: l, owner, hs, O, hm => by
    rw [List.length_cons] at hm
    obtain ⟨j, e, O'⟩ := own_step two O (by omega) h
    obtain ⟨owner', e', O2⟩ := own_fold two l _ _ O' (by rw [List.length_append, List.length_singleton]; omega)
    refine ⟨owner', ?_, by rw [List.append_assoc] at O2; exact O2⟩
    rw [List.foldl_cons]
    rw [List.length_append, List.length_singleton] at e'
    show List.foldl _ (do
      let j ← SetTable.layClean.free mask owner (SetTable.turns mask) (SetTable.bits h % (mask + 1)) (SetTable.bits h)
      pure (owner.setIfInBounds j (some hs.length), hs.length + 1)) l = _
    rw [e]
    have e'' := e'
    rw [show hs.length + (h :: l).length = hs.length + 1 + l.length by rw [List.length_cons]; omega]
    exact e''
theorem clean_ok {mask : Nat} (two : Two mask) (hs : Array Int) (h : hs.size ≤ mask + 1) : ∃ owner, SetTable.layClean mask hs = some owner ∧ Own mask owner hs.toList := by
  obtain ⟨owner, e, O⟩ := own_fold two hs.toList _ [] (own_nil mask) (by rw [Array.length_toList]; simpa using h)
  refine ⟨owner, ?_, by simpa using O⟩
  unfold SetTable.layClean
  rw [← Array.foldl_toList]
  have e2 := e
  rw [List.length_nil] at e2
  rw [e2]
  rfl
theorem laid_ok {mask : Nat} (two : Two mask) (finger moves : Nat) (led plain : Bool) (hs : Array Int) (h : hs.size ≤ mask) : ∃ t order, SetTable.laid mask finger moves led plain hs = some (t, order) ∧ t.mask = mask ∧ t.dummies = #[] ∧ t.led = led ∧ t.plain = plain ∧ Rise t.place ∧
    (∀ i x : Nat, t.place[i]? = some x → x ≤ mask) ∧ t.place.size = hs.size ∧ order.size = hs.size ∧ order.toList.Perm (List.range hs.size) ∧ ∀ (i v : Nat) (h : Int), order[i]? = some v → hs[v]? = some h → ∃ j, t.place[i]? = some j ∧ Path t h j := by
  obtain ⟨owner, e, O⟩ := clean_ok two hs (by omega)
  refine ⟨{ mask, place := (((List.range (mask + 1)).filterMap fun j => (owner.getD j none).map (j, ·)).map (·.1)).toArray, dummies := #[], finger, led, moves, plain }, (((List.range (mask + 1)).filterMap fun j => (owner.getD j none).map (j, ·)).map (·.2)).toArray, ?_, rfl, rfl, rfl, rfl, ?_⟩
  · unfold SetTable.laid
    rw [e]
    rfl
  generalize hL : ((List.range (mask + 1)).filterMap fun j => (owner.getD j none).map (j, ·)) = L
  have gd : ∀ j : Nat, owner.getD j none = (owner[j]?).getD none := fun j => by
    simp [Array.getD_eq_getD_getElem?]
  have mem : ∀ j v, (j, v) ∈ L ↔ owner[j]? = some (some v) := fun j v => by
    rw [← hL, List.mem_filterMap]
    constructor
    · rintro ⟨a, ha, q⟩
      rw [gd] at q
      cases z : owner[a]? with
      | none => rw [z] at q; cases q
      | some o =>
        rw [z] at q
        cases o with
        | none => cases q
        | some v' =>
          have q : some (a, v') = some (j, v) := q
          cases q
          exact z
    · intro z
      have := (Array.getElem?_eq_some_iff.mp z).1
      refine ⟨j, List.mem_range.mpr (by have := O.size; omega), ?_⟩
      rw [gd, z]; rfl
  have pw : (L.map (·.1)).Pairwise (· < ·) := by
    have sub : (L.map (·.1)).Sublist (List.range (mask + 1)) := by
      rw [← hL, List.map_filterMap]
      have : ∀ l : List Nat, (l.filterMap fun x => ((owner.getD x none).map (x, ·)).map (·.1)).Sublist l := fun l => by
        induction l with
        | nil => exact List.Sublist.slnil
        | cons a l ih =>
          rw [List.filterMap_cons]
          cases owner.getD a none with
          | none => exact ih.cons a
          | some v => exact ih.cons₂ a
      exact this _
    exact List.pairwise_lt_range.sublist sub
  have nd2 : (L.map (·.2)).Nodup := by
    rw [List.nodup_iff_pairwise_ne, List.pairwise_map]
    have := List.pairwise_map.mp pw
    refine this.imp_of_mem fun {a b} ha hb lt e => ?_
    have h1 := (mem a.1 a.2).mp ha
    have h2 := (mem b.1 b.2).mp hb
    rw [e] at h1
    have := O.inj _ _ _ h1 h2
    omega
  have pm : (L.map (·.2)).Perm (List.range hs.size) := by
    refine List.perm_iff_count.mpr fun v => ?_
    have c1 : (List.range hs.size).count v = if v < hs.size then 1 else 0 := by
      by_cases q : v < hs.size
      · rw [if_pos q]; exact List.nodup_range.count.trans (by simp [q])
      · rw [if_neg q]; exact List.count_eq_zero.mpr fun z => q (List.mem_range.mp z)
    rw [c1]
    by_cases q : v < hs.size
    · rw [if_pos q]
      have hv : hs.toList[v]? = some hs[v] := by rw [Array.getElem?_toList]; exact Array.getElem?_eq_getElem q
      obtain ⟨j, _, hj, _⟩ := O.ex v _ hv
      have : v ∈ L.map (·.2) := List.mem_map.mpr ⟨(j, v), (mem j v).mpr hj, rfl⟩
      rw [nd2.count, if_pos this]
    · rw [if_neg q]
      refine List.count_eq_zero.mpr fun z => q ?_
      obtain ⟨⟨j, v'⟩, hjv, rfl⟩ := List.mem_map.mp z
      have := O.lt j v' ((mem j v').mp hjv)
      rwa [Array.length_toList] at this
  have len : L.length = hs.size := by
    have := pm.length_eq
    rwa [List.length_map, List.length_range] at this
  have live : ∀ j, lp owner j → ∃ i : Nat, ((L.map (·.1)).toArray)[i]? = some j := fun j ⟨v, hv⟩ => by
    obtain ⟨i, hi⟩ := List.mem_iff_getElem?.mp ((mem j v).mpr hv)
    exact ⟨i, by rw [List.getElem?_toArray, List.getElem?_map, hi]; rfl⟩
  refine ⟨fun i j x y hij hx hy => ?_, fun i x hx => ?_, by simp [len], by simp [len], by simpa using pm, fun i v h hv hh => ?_⟩
  · have hx : (L.map (·.1))[i]? = some x := by simpa using hx
    have hy : (L.map (·.1))[j]? = some y := by simpa using hy
    obtain ⟨h1, e1⟩ := List.getElem?_eq_some_iff.mp hx
    obtain ⟨h2, e2⟩ := List.getElem?_eq_some_iff.mp hy
    rw [← e1, ← e2]
    exact List.pairwise_iff_getElem.mp pw i j h1 h2 hij
  · have hx : (L.map (·.1))[i]? = some x := by simpa using hx
    obtain ⟨⟨j, v⟩, hjv, rfl⟩ := List.mem_map.mp (List.mem_of_getElem? hx)
    have := (Array.getElem?_eq_some_iff.mp ((mem j v).mp hjv)).1
    have := O.size
    show j ≤ mask
    omega
  · have hv : (L.map (·.2))[i]? = some v := by simpa using hv
    rw [List.getElem?_map] at hv
    obtain ⟨⟨j, v'⟩, hL2, rfl⟩ := Option.map_eq_some_iff.mp hv
    have hjv := (mem j v').mp (List.mem_of_getElem? hL2)
    have hh2 : hs.toList[v']? = some h := by rw [Array.getElem?_toList]; exact hh
    obtain ⟨j', _, hj', K, rK, lK⟩ := O.ex v' h hh2
    have ej := O.inj _ _ _ hjv hj'
    subst ej
    refine ⟨j, by simpa using (by rw [hL2]; rfl : (L[i]?.map (·.1)) = some j), K, rK, fun K' hK => live _ (lK K' hK)⟩
end ST
namespace ST
open PySem
theorem relay_ok {t : SetTable} {n : Nat} (T : Tab0 t n) (full : t.tooFull = true) (few : n ≤ 76) (hs : Array Int) (hn : hs.size = n) : ∃ t' order, t.relaid hs (SetTable.grown n) = some (t', order) ∧ Tab t' n ∧ t'.led = t.led ∧ order.size = n ∧ order.toList.Perm (List.range n) ∧
    ∀ (i v : Nat) (h : Int), order[i]? = some v → hs[v]? = some h → ∃ j, t'.place[i]? = some j ∧ Path t' h j := by
  have f : t.mask * 3 ≤ n * 5 := by
    unfold SetTable.tooFull SetTable.fill at full
    rw [T.dum, T.size] at full
    simpa using full
  have rm := T.room
  have hm : ∃ mask, Two mask ∧ SetTable.sizeAbove (SetTable.grown n) = mask + 1 ∧ n * 5 < mask * 3 := by
    rcases T.two with h | h | h
    · rw [h] at f rm
      have : n = 5 ∨ n = 6 ∨ n = 7 := by omega
      exact ⟨31, .inr (.inl rfl), by rcases this with rfl | rfl | rfl <;> decide, by omega⟩
    · rw [h] at f rm
      refine ⟨127, .inr (.inr rfl), ?_, by omega⟩
      have : ∀ k : Fin 13, SetTable.sizeAbove (SetTable.grown (19 + k.val)) = 127 + 1 := by decide +kernel
      have := this ⟨n - 19, by omega⟩
      rwa [show 19 + (n - 19) = n by omega] at this
    · rw [h] at f; omega
  obtain ⟨mask, two, hsz, hroom⟩ := hm
  obtain ⟨t', order, e, em, ed, el, ep, rise, inn, sz, osz, pm, paths⟩ := laid_ok (mask := mask) two t.finger (t.movedTo mask) t.led t.plain hs (by omega)
  refine ⟨t', order, ?_, ⟨by rw [em]; exact two, ed, rise, fun i x hx => by rw [em]; exact inn i x hx, by rw [sz, hn], by rw [em]; omega, by rw [ep, T.plain]⟩, el, by rw [osz, hn], by rw [← hn]; exact pm, paths⟩
  unfold SetTable.relaid
  rw [hsz]
  exact e
theorem fm_get {α β : Type} {f : α → Option β} : ∀ {l : List α}, (∀ x ∈ l, (f x).isSome = true) → ∀ i : Nat, (l.filterMap f)[i]? = (l[i]?).bind f
  | [], _, i => by simp
  | a :: l, h, i => by
    obtain ⟨b, hb⟩ := Option.isSome_iff_exists.mp (h a List.mem_cons_self)
    rw [List.filterMap_cons, hb]
    cases i with
    | zero => simp [hb]
    | succ i =>
      rw [List.getElem?_cons_succ, List.getElem?_cons_succ]
      exact fm_get (fun x hx => h x (List.mem_cons_of_mem _ hx)) i
theorem re_order {α : Type} {es : Array α} {n : Nat} (hn : es.size = n) {order : Array Nat} (pm : order.toList.Perm (List.range n)) : (order.filterMap (es[·]?)).toList.Perm es.toList ∧ (order.filterMap (es[·]?)).size = n ∧ ∀ i : Nat, (order.filterMap (es[·]?))[i]? = (order[i]?).bind (es[·]?) := by
  have e : (order.filterMap (es[·]?)).toList = order.toList.filterMap (es[·]?) := by simp
  have p : (order.filterMap (es[·]?)).toList.Perm es.toList := by
    rw [e, ← filterMap_getElem?_range es, hn]
    exact pm.filterMap _
  refine ⟨p, ?_, fun i => ?_⟩
  · have := p.length_eq
    rw [Array.length_toList, Array.length_toList] at this
    rw [this, hn]
  · rw [← Array.getElem?_toList, e, fm_get (fun x hx => ?_), Array.getElem?_toList]
    have := List.mem_range.mp (pm.mem_iff.mp hx)
    rw [Array.getElem?_eq_getElem (by omega)]
    rfl
def SetIn (w : World) (h : Heap) (a : Addr) (es : Array (Int × Value)) : Prop := ∃ o ep t, h.get? a = some o ∧ o.ExactSet ∧ o.data = .set es ep t ∧ Tab t es.size ∧ t.led = !(w.params.followText "set-order") ∧
  ∀ (i : Nat) (k : Int) (x : Value), es[i]? = some (k, x) → ∃ j, t.place[i]? = some j ∧ Path t k j
theorem SetIn.at {w : World} {h h' : Heap} {a : Addr} {es : Array (Int × Value)} (S : SetIn w h a es) (k : ∀ o, h.get? a = some o → h'.get? a = some o) : SetIn w h' a es := by
  obtain ⟨o, ep, t, e, r⟩ := S
  exact ⟨o, ep, t, k o e, r⟩
theorem store_get {h : Heap} {a : Addr} {o : Obj} {es : Array (Int × Value)} {ep : Nat} {t : SetTable} (ho : h.get? a = some o) (hd : o.data = .set es ep t) (es' : Array (Int × Value)) (t' : SetTable) :
    (h.update a (Obj.putSet es' t')).get? a = some { o with data := .set es' (ep + 1) t' } := by
  have q := Heap.get?_update_self (Obj.putSet es' t') ho (by rw [putSet_of es' t' hd]; rfl)
  rwa [putSet_of es' t' hd] at q
theorem Tab.fits {t : SetTable} {n : Nat} (T : Tab t n) : t.fits n = true := T.zero.fits
theorem paths_more {t : SetTable} {n : Nat} (T : Tab t n) {es : Array (Int × Value)} (he : es.size = n) {j : Nat} {k : Int} {x : Value} (hp : Path t k j)
    (ps : ∀ (i : Nat) (k : Int) (x : Value), es[i]? = some (k, x) → ∃ j, t.place[i]? = some j ∧ Path t k j) (i : Nat) (k' : Int) (x' : Value) (h : (SetTable.insertAt es (SetTable.below t.place j) (k, x))[i]? = some (k', x')) :
    ∃ j', (more t j).place[i]? = some j' ∧ Path (more t j) k' j' := by
  have l := below_le T.rise j
  have l2 : SetTable.below t.place j ≤ es.size := by rw [he, ← T.size]; exact l
  show ∃ j', (SetTable.insertAt t.place (SetTable.below t.place j) j)[i]? = some j' ∧ _
  rw [insert_get l2] at h
  rw [insert_get l]
  by_cases c : i < SetTable.below t.place j
  · rw [if_pos c] at h ⊢
    obtain ⟨j', e, p⟩ := ps i k' x' h
    exact ⟨j', e, p.more⟩
  · rw [if_neg c] at h ⊢
    by_cases d : i = SetTable.below t.place j
    · rw [if_pos d] at h ⊢
      cases h
      exact ⟨j, rfl, hp.more⟩
    · rw [if_neg d] at h ⊢
      obtain ⟨j', e, p⟩ := ps _ k' x' h
      exact ⟨j', e, p.more⟩
theorem insert_perm2 {es : Array (Int × Value)} {p : Nat} {e : Int × Value} : (SetTable.insertAt es p e).toList.Perm (es.toList ++ [e]) := by
  have := SetTable.insertAt_perm es p e
  rwa [Array.toList_push] at this
section
variable {prog : Program} {w : World} {A : Around} {E : Value → Shared → Prop} {s : Shared}
theorem add_int {a : Addr} {es : Array (Int × Value)} {k : Int} {x : Value} {Q : Bool → Shared → Prop} (hx : (intKind prog w).is k x = true) (hsc : x.scannable = true) (hpl : plainKind x = true) (S : SetIn w s.heap a es) (el : ElemsOf (intKind prog w) es.toList) (few : es.size + 1 ≤ 18)
    (hQ : ∀ h' es', Heap.SameBut a s.heap h' → SetIn w h' a es' → ((∃ e ∈ es.toList, (intKind prog w).is k e.2 = true) ∧ es' = es ∨ (∀ e ∈ es.toList, (intKind prog w).is k e.2 = false) ∧ es'.toList.Perm (es.toList ++ [((intKind prog w).hash k, x)])) → ∀ b, Q b { s with heap := h' }) :
    wpAny (model prog w) A (setAddHashed a x ((intKind prog w).hash k)) Q E s := by
  have S0 := S
  obtain ⟨o, ep, t, ho, hex, hd, T, led, paths⟩ := S
  have hb : es.size < scanBound := Nat.lt_of_lt_of_le (by omega : es.size < 18) (by decide)
  unfold setAddHashed setAddHashedIn
  refine wpAny_holding (wpAny_bind (wpAny_setState_of ho hd T.fits ?_))
  dsimp only
  rw [byScan_of hsc hb el]
  simp only [↓reduceIte]
  unfold setAddByScan
  refine wpAny_bind (wpAny_bind (wpAny_rule (wpAny_bind (wpAny_setScan_of hx ho hd T.fits el ?_))))
  cases hr : List.findIdx? (fun e => (intKind prog w).is k e.2) es.toList with
  | some j =>
    obtain ⟨hj, hpj, _⟩ := List.findIdx?_eq_some_iff_getElem.mp hr
    refine wpAny_pure (wpAny_pure ?_)
    have e : s = { s with heap := s.heap } := by cases s; rfl
    rw [e]
    exact hQ s.heap es (Heap.SameBut.refl a _) S0 (.inl ⟨⟨_, List.getElem_mem hj, hpj⟩, rfl⟩) _
  | none =>
    have no : ∀ e ∈ es.toList, (intKind prog w).is k e.2 = false := fun e he => List.findIdx?_eq_none_iff.mp hr e he
    obtain ⟨j, eL, T0, hp, hn⟩ := lay_new T rfl ((intKind prog w).hash k) x
    dsimp only
    rw [eL]
    dsimp only
    refine wpAny_bind (wpAny_pure ?_)
    have pl : (more t j).plain = true := T.plain
    rw [if_pos pl]
    refine wpAny_bind ?_
    rw [hashByValue_scannable 8 hsc, hpl]
    refine wpAny_pure ?_
    rw [if_pos rfl]
    have hsz : (SetTable.insertAt es (SetTable.below t.place j) ((intKind prog w).hash k, x)).size = es.size + 1 := insert_size _ _ _
    have few2 : (SetTable.insertAt es (SetTable.below t.place j) ((intKind prog w).hash k, x)).size ≤ 18 := by rw [hsz]; exact few
    have ip : (SetTable.insertAt es (SetTable.below t.place j) ((intKind prog w).hash k, x)).toList.Perm (es.toList ++ [((intKind prog w).hash k, x)]) := insert_perm2
    have ps1 := paths_more T rfl (x := x) hp paths
    generalize SetTable.insertAt es (SetTable.below t.place j) ((intKind prog w).hash k, x) = es1 at hsz few2 ip ps1
    have le1 : es1.size ≤ sizeLine := Nat.le_trans few2 (by decide)
    refine wpAny_bind (wpAny_storeSet_of ho hd ?_ le1)
    have g1 := store_get ho hd es1 (more t j)
    have sb1 := Heap.SameBut.update s.heap a (Obj.putSet es1 (more t j))
    rw [← hsz] at T0
    cases hf : (more t j).tooFull with
    | false =>
      simp only [Bool.not_false, Bool.and_false, Bool.false_eq_true, if_false]
      exact wpAny_pure (wpAny_pure (hQ _ es1 sb1 ⟨_, _, _, g1, hex, rfl, T0.full hf, led, ps1⟩ (.inr ⟨no, ip⟩) _))
    | true =>
      simp only [Bool.not_false, Bool.and_self, if_true]
      obtain ⟨t', order, er, T', led', osz, pm, paths'⟩ := relay_ok T0 hf (Nat.le_trans few2 (by decide)) (es1.map (·.1)) (by simp)
      obtain ⟨rp, rs, rg⟩ := re_order (es := es1) rfl pm
      have eR : relayAll (more t j) es1 (SetTable.grown es1.size) = (order.filterMap (es1[·]?), t', false) := by
        unfold relayAll
        rw [er]
        dsimp only
        have c1 : coversAll order es1.size = true := List.isPerm_iff.mpr pm
        rw [c1, rs, T'.fits]
        rfl
      rw [eR]
      dsimp only
      refine wpAny_bind (wpAny_pure (wpAny_bind (wpAny_storeSet_of g1 rfl (wpAny_pure (wpAny_pure (hQ _ (order.filterMap (es1[·]?)) (sb1.trans (Heap.SameBut.update _ a _)) ⟨_, _, _, store_get g1 rfl _ _, hex, rfl, by rw [rs]; exact T', led'.trans led, fun i k' x' hi => ?_⟩ (.inr ⟨no, rp.trans ip⟩) _))) (by rw [rs]; exact le1))))
      rw [rg] at hi
      cases ho : order[i]? with
      | none => rw [ho] at hi; cases hi
      | some v =>
        rw [ho] at hi
        have hi : es1[v]? = some (k', x') := hi
        exact paths' i v k' ho (by rw [Array.getElem?_map, hi]; rfl)
end
end ST
namespace ST
open PySem PySem.Spec PyProof.Rows
theorem tab_fresh (a b : Nat) (led : Bool) : Tab (.fresh a b led) 0 := by
  refine ⟨.inl rfl, rfl, fun i j x y _ h _ => ?_, fun i x h => ?_, rfl, by show 0 * 5 < 7 * 3; decide, rfl⟩
  · exact absurd h (by simp [SetTable.fresh])
  · exact absurd h (by simp [SetTable.fresh])
abbrev newS (w : World) : Obj := { cls := .type "set", dict := none, data := .set #[] 0 (.fresh 0 0 (!(w.params.followText "set-order"))) }
theorem in_fresh {w : World} {h : Heap} {a : Addr} (e : h.get? a = some (newS w)) : SetIn w h a #[] :=
  ⟨_, 0, _, e, ⟨rfl, rfl, rfl⟩, rfl, tab_fresh 0 0 _, rfl, fun i k x z => by simp at z⟩
section
variable {prog : Program} {w : World} {A : Around} {R : Result → Shared → Prop} {I : Addr} {fp wr : List Addr} {G : Array GenState → Array GenState → Prop} {n : Nat} {P : Nat → Value → Prop} {St : Nat → Shared → Prop}
structure Adds (prog : Program) (w : World) (A : Around) (S : Addr) (wr : List Addr) (n : Nat) (P : Nat → Value → Prop) (J : Nat → Heap → Prop) : Prop where
  frame : ∀ i (h h' : Heap), J i h → (∀ b o, b ∉ wr → h.get? b = some o → h'.get? b = some o) → J i h'
  step : ∀ i v (s : Shared) (Q : Bool → Shared → Prop) (E : Value → Shared → Prop), i < n → P i v → J i s.heap → (∀ h' tk b, Heap.SameBut S s.heap h' → s.toks ≤ tk → J (i + 1) h' → Q b { s with heap := h', toks := tk }) → wpAny (model prog w) A (setAdd S v) Q E s
theorem loop_adds (W : WalksS prog w A.in1 I fp wr G n P St) (S : Addr) (hSf : S ∉ fp) (J : Nat → Heap → Prop) (X : Adds prog w A.in1 S wr n P J) :
    ∀ (k i : Nat) (s : Shared), n - i = k → i ≤ n → St i s → J i s.heap → (∀ s', Moved (S :: wr) G s s' → J n s'.heap → R (.ok (.ret .none)) s') →
      codeAny (model prog w) A (.builtin "set.update.loop" ⟨[.ref S, .ref I], []⟩) R s := by
  have up : ∀ b ∈ wr, b ∈ S :: wr := fun b hb => .tail _ hb
  intro k
  induction k with
  | zero =>
    intro i s e hi st j fin
    obtain rfl : i = n := by omega
    refine codeAny_builtin PyProof.Rows.F.entry_set_update_loop ?_
    rw [Around.under_plainId PyProof.Rows.F.plain_set_update_loop _]
    show wpAny _ A.in1 (pyNext (.ref I) >>= _) _ _ s
    exact wpAny_bind (W.done s _ _ st fun s' m => wpAny_pure (fin s' (m.mono up) (X.frame i _ _ j fun b o hb q => m.heap b o hb q)))
  | succ k ih =>
    intro i s e hi st j fin
    have hlt : i < n := by omega
    refine codeAny_builtin PyProof.Rows.F.entry_set_update_loop ?_
    rw [Around.under_plainId PyProof.Rows.F.plain_set_update_loop _]
    show wpAny _ A.in1 (pyNext (.ref I) >>= _) _ _ s
    refine wpAny_bind (W.item i s _ _ hlt st fun v s' hP st' m => ?_)
    have j' := X.frame i _ _ j fun b o hb q => m.heap b o hb q
    show wpAny _ A.in1 (holding [v] (setAdd S v) >>= _) _ _ s'
    refine wpAny_bind (wpAny_holding (X.step i v s' _ _ hlt hP j' fun h' tk b sb ht j2 => ?_))
    refine wpAny_pure ⟨plainId_quiet PyProof.Rows.F.plain_set_update_loop _, ih (i + 1) _ (by omega) hlt (W.frame _ s' _ _ st' ht fun b hb o q => ?_) j2 fun s2 m2 j3 => ?_⟩
    · exact (sb.2 b fun z => hSf (z ▸ hb)).trans q
    · refine fin s2 (Moved.trans W.gtrans ((m.mono up).then_heap ht fun b o hb q => ?_) m2) j3
      exact (sb.2 b fun z => hb (z ▸ .head _)).trans q
end
section
variable {prog : Program} {w : World} {A : Around} {E : Value → Shared → Prop} {s : Shared}
theorem code_new (a : Value) {Q1 : Value → Shared → Prop} (h : Q1 (.ref s.heap.objs.size) { s with heap := s.heap.push (newS w) }) :
    codeAny (model prog w) A (.call (.builtin "set.__new__") ⟨[.type "set", a], []⟩) (wants Q1 E) s := by
  refine codeAny_of_tree ?_
  show wpAny _ A.in1 (checkBuiltinCall "set.__new__" ⟨[.type "set", a], []⟩ >>= fun _ => again (.builtin "set.__new__" ⟨[.type "set", a], []⟩)) _ _ s
  refine wpAny_bind (wpAny_of_eq (PySem.F.newCall_set_1 a) (wpAny_pure ⟨plainId_quiet F.plain_set_new _, codeAny_builtin F.entry_set_new ?_⟩))
  rw [Around.under_plainId F.plain_set_new _]
  unfold Builtin.«set.__new__» Builtin.Frozenset.newClass
  have hsub := sub_set_self
  obtain ⟨hp, g, d, tk, os⟩ := s
  dsimp only
  wp_walk
  refine wpAny_askSetting (wpAny_pure ?_)
  dsimp only
  simp only [newObj]
  exact wpAny_bind (wpAny_alloc (wpAny_pure (wpAny_pure h)))
end
end ST
namespace ST
open PySem
def order (w : World) (a : Addr) (ep : Nat) (es : Array (Int × Value)) : Array (Int × Value) := if w.params.followText "set-order" then pickOrder (w.params.setOrder a ep) es else es
structure SetX (w : World) (h : Heap) (a : Addr) (es : Array (Int × Value)) (ep : Nat) (t : SetTable) : Prop where
  ex : ∃ o, h.get? a = some o ∧ o.ExactSet ∧ o.data = .set es ep t
  tab : Tab t es.size
  led : t.led = !(w.params.followText "set-order")
theorem SetIn.x {w : World} {h : Heap} {a : Addr} {es : Array (Int × Value)} (S : SetIn w h a es) : ∃ ep t, SetX w h a es ep t := by
  obtain ⟨o, ep, t, h1, h2, h3, T, led, _⟩ := S
  exact ⟨ep, t, ⟨o, h1, h2, h3⟩, T, led⟩
end ST
namespace ST
open PySem
section
variable {prog : Program} {w : World} {A : Around} {E : Value → Shared → Prop} {s : Shared}
theorem SetX.at {h h' : Heap} {a : Addr} {es : Array (Int × Value)} {ep : Nat} {t : SetTable} (S : SetX w h a es ep t) (k : ∀ o, h.get? a = some o → h'.get? a = some o) : SetX w h' a es ep t := by
  obtain ⟨⟨o, h1, h2⟩, h3, h4⟩ := S
  exact ⟨⟨o, k o h1, h2⟩, h3, h4⟩
end
end ST
namespace ST
end ST
namespace ST
open PySem PySem.Spec PyProof.Rows
def ikey : Value → Int
  | .int k _ => k
  | _ => 0
def AllInt (vs : List Value) : Prop := ∀ v ∈ vs, ∃ k t, v = .int k t
theorem all_int : ∀ {vs : List Value} {ns : List Int}, IntsAre vs ns → AllInt vs ∧ vs.map ikey = ns
  | _, _, .nil => ⟨fun _ h => by simp at h, rfl⟩
  | _, _, .cons n t h => by
    obtain ⟨a, b⟩ := all_int h
    refine ⟨fun v hv => ?_, by rw [List.map_cons, b]; rfl⟩
    rcases List.mem_cons.mp hv with rfl | hv
    · exact ⟨n, t, rfl⟩
    · exact a v hv
def IntSet (w : World) (h : Heap) (a : Addr) (ks : List Int) : Prop := ∃ es : Array (Int × Value), SetIn w h a es ∧ (∀ e ∈ es.toList, ∃ k t, e = (hashInt k, .int k t)) ∧ es.toList.map (fun e => ikey e.2) = ks
theorem elems_of {prog : Program} {w : World} {es : Array (Int × Value)} (h : ∀ e ∈ es.toList, ∃ k t, e = (hashInt k, .int k t)) : ElemsOf (intKind prog w) es.toList := fun e he => by
  obtain ⟨k, t, rfl⟩ := h e he
  exact ⟨⟨k, intKind_is _ _ _ _, rfl⟩, rfl⟩
theorem is_key {prog : Program} {w : World} {k : Int} {e : Int × Value} (h : ∃ k' t, e = (hashInt k', .int k' t)) : (intKind prog w).is k e.2 = true ↔ ikey e.2 = k := by
  obtain ⟨k', t, rfl⟩ := h
  show Value.isInt k (.int k' t) = true ↔ k' = k
  simp [Value.isInt]
  first | exact eq_comm | (constructor <;> intro z <;> exact z.symm) | skip
theorem adds_int {prog : Program} {w : World} {A : Around} {S : Addr} {wr : List Addr} (hS : S ∉ wr) {items : Array Value} {ns : List Int} (hi : IntsAre items.toList ns) (few : items.size ≤ 17) :
    Adds prog w A S wr items.size (fun i v => items[i]? = some v) (fun i h => ∃ ks, IntSet w h S ks ∧ ks.Nodup ∧ (∀ k, k ∈ ks ↔ k ∈ ns.take i) ∧ ks.length ≤ i) where
  frame := fun i h h' j k => by
    obtain ⟨ks, ⟨es, S1, r⟩, r2⟩ := j
    exact ⟨ks, ⟨es, S1.at fun o e => k S o hS e, r⟩, r2⟩
  step := fun i v s Q E hlt hv j hQ => by
    obtain ⟨ks, ⟨es, S1, el, hks⟩, nd, mem, len⟩ := j
    obtain ⟨ai, mi⟩ := all_int hi
    have hv' : items.toList[i]? = some v := by rw [Array.getElem?_toList]; exact hv
    obtain ⟨k, t, rfl⟩ := ai v (List.mem_of_getElem? hv')
    have hk : ns[i]? = some k := by rw [← mi, List.getElem?_map, hv']; rfl
    have tk : ns.take (i + 1) = ns.take i ++ [k] := by rw [List.take_succ, hk]; rfl
    have lks : es.size = ks.length := by rw [← hks, List.length_map, Array.length_toList]
    unfold setAdd
    refine wpAny_holding (wpAny_bind ((intKind prog w).pyHash (k := k) (intKind_is _ _ _ _) ?_))
    refine add_int (s := { s with toks := s.toks + 1 }) (intKind_is _ _ _ _) rfl rfl S1 (elems_of el) (by omega) fun h' es' sb S' cs b => ?_
    refine hQ h' _ b sb (Nat.le_succ _) ?_
    rcases cs with ⟨⟨e, he, hek⟩, rfl⟩ | ⟨no, pm⟩
    · have hin : k ∈ ks := by rw [← hks]; exact List.mem_map.mpr ⟨e, he, (is_key (el e he)).mp hek⟩
      refine ⟨ks, ⟨es', S', el, hks⟩, nd, fun x => ?_, by omega⟩
      rw [tk, List.mem_append, List.mem_singleton, mem]
      exact ⟨.inl, fun z => z.elim id fun z => z ▸ (mem k).mp hin⟩
    · have hnot : k ∉ ks := fun z => by
        rw [← hks] at z
        obtain ⟨e, he, hek⟩ := List.mem_map.mp z
        have := no e he
        rw [(is_key (el e he)).mpr hek] at this
        cases this
      have pk : (es'.toList.map fun e => ikey e.2).Perm (ks ++ [k]) := by
        have := pm.map fun e : Int × Value => ikey e.2
        rw [List.map_append, hks] at this
        exact this
      refine ⟨_, ⟨es', S', fun e he => ?_, rfl⟩, ?_, fun x => ?_, ?_⟩
      · rcases List.mem_append.mp (pm.mem_iff.mp he) with z | z
        · exact el e z
        · rw [List.mem_singleton] at z
          exact ⟨k, t, z⟩
      · refine pk.nodup_iff.mpr (List.nodup_append.mpr ⟨nd, by simp, fun a ha b hb e => ?_⟩)
        rw [List.mem_singleton] at hb
        exact hnot (by rw [← hb, ← e]; exact ha)
      · rw [pk.mem_iff, tk, List.mem_append, List.mem_append, mem]
      · rw [pk.length_eq, List.length_append, List.length_singleton]; omega
end ST
namespace L2
open PySem PySem.Spec PyProof.Rows
def setO (w : World) (a : Addr) (ks : List Int) : HO := .ext fun h => ST.IntSet w h a ks
end L2
namespace Rg
open Nm
def F (f : List Int) (x : Int) : Int := f.getD x.toNat 0
def it (f : List Int) : Nat → Int → Int
  | 0, c => c
  | k + 1, c => F f (it f k c)
def In (n : Nat) (c : Int) : Prop := 0 ≤ c ∧ c < n
theorem nodup_le : ∀ (n : Nat) (l : List Int), l.Nodup → (∀ x ∈ l, In n x) → l.length ≤ n
  | 0, l, _, h => by
    cases l with
    | nil => simp
    | cons a r => have := h a List.mem_cons_self; unfold In at this; omega
  | n + 1, l, hn, h => by
    by_cases hm : (n : Int) ∈ l
    · have h1 := nodup_le n (l.erase (n : Int)) (hn.erase _) fun x hx => by
        have hx2 := (hn.mem_erase_iff).mp hx
        have := h x hx2.2
        have hne := hx2.1
        unfold In at this ⊢
        omega
      rw [List.length_erase_of_mem hm] at h1
      omega
    · have h1 := nodup_le n l hn fun x hx => by
        have := h x hx
        have hne : x ≠ (n : Int) := fun e => hm (e ▸ hx)
        unfold In at this ⊢
        omega
      omega
def least (p : Nat → Bool) : Nat → Nat → Nat
  | 0, k => k
  | fuel + 1, k => if p k = true then k else least p fuel (k + 1)
def pow (n : Nat) (f : List Int) (k : Nat) : List Int := (upTo n).map (it f k)
theorem pow_succ (n : Nat) (f : List Int) (k : Nat) : thenF (pow n f k) f = pow n f (k + 1) := by
  unfold thenF pow
  rw [List.map_map]
  rfl
def ord (n : Nat) (f : List Int) : Nat := least (fun k => pow n f k == upTo n) 60 1
end Rg
namespace L2
end L2
namespace Kx
open PySem L2
theorem ixN_nat {n i : Nat} (h : i < n) : ixN n (i : Int) = some i := by
  unfold ixN
  rw [if_pos (by omega), if_pos (by omega)]
  congr 1
theorem ixN_int {n : Nat} {i : Int} (h0 : 0 ≤ i) (h1 : i < n) : ixN n i = some i.toNat := by
  obtain ⟨k, rfl⟩ : ∃ k : Nat, i = k := ⟨i.toNat, by omega⟩
  rw [Int.toNat_natCast]
  exact ixN_nat (by omega)
def rowV (n : Nat) (g : Nat → V) : List V := (List.range n).map g
theorem rowV_len (n : Nat) (g : Nat → V) : (rowV n g).length = n := by simp [rowV]
theorem rowV_get {n : Nat} {g : Nat → V} {i : Nat} (h : i < n) : (rowV n g)[i]? = some (g i) := by simp [rowV, h]
theorem rowV_at {n : Nat} {g : Nat → V} {i : Nat} (h : i < n) : atI (rowV n g) (i : Int) = some (g i) := at_of rfl (rowV_get h)
theorem rowV_set {n : Nat} {g : Nat → V} {b : Nat} {v : V} : (rowV n g).set b v = rowV n (fun y => if y = b then v else g y) := by
  refine List.ext_getElem? fun i => ?_
  rw [List.getElem?_set]
  by_cases hi : i < n
  · rw [rowV_get hi, rowV_get hi, rowV_len]
    by_cases c : b = i
    · subst c; simp [hi]
    · rw [if_neg c, if_neg (fun z => c z.symm)]
  · have h1 : (rowV n g)[i]? = none := List.getElem?_eq_none (by rw [rowV_len]; omega)
    have h2 : (rowV n (fun y => if y = b then v else g y))[i]? = none := List.getElem?_eq_none (by rw [rowV_len]; omega)
    rw [h1, h2, rowV_len]
    split
    · rw [if_neg (by omega)]
    · rfl
theorem rowV_congr {n : Nat} {g g' : Nat → V} (h : ∀ i, i < n → g i = g' i) : rowV n g = rowV n g' := by
  unfold rowV
  exact List.map_congr_left fun i hi => h i (List.mem_range.mp hi)
theorem rowV_rep {n : Nat} {v : V} : List.replicate n v = rowV n (fun _ => v) := by
  unfold rowV
  rw [List.map_const', List.length_range]
structure Grid (H : Hp) (p : Addr) (rs : List Addr) (n : Nat) (G : Nat → Nat → V) : Prop where
  top : H p = some (.lst (rs.map V.ref))
  len : rs.length = n
  nd : rs.Nodup
  out : p ∉ rs
  row : ∀ (a : Nat) (r : Addr), rs[a]? = some r → H r = some (.lst (rowV n (G a)))
theorem Grid.keep {H H' : Hp} {p : Addr} {rs : List Addr} {n : Nat} {G : Nat → Nat → V} {ex : List Addr} (g : Grid H p rs n G) (k : Keep ex H H') (h1 : p ∉ ex) (h2 : ∀ r ∈ rs, r ∉ ex) : Grid H' p rs n G :=
  ⟨k _ _ g.top h1, g.len, g.nd, g.out, fun a r hr => k _ _ (g.row a r hr) (h2 r (List.mem_of_getElem? hr))⟩
theorem Grid.same {H H' : Hp} {p : Addr} {rs : List Addr} {n : Nat} {G : Nat → Nat → V} (g : Grid H p rs n G) (s : Same H H') : Grid H' p rs n G :=
  ⟨s _ _ g.top, g.len, g.nd, g.out, fun a r hr => s _ _ (g.row a r hr)⟩
theorem Grid.get {H : Hp} {p : Addr} {rs : List Addr} {n : Nat} {G : Nat → Nat → V} (g : Grid H p rs n G) {a : Nat} (h : a < n) : ∃ r, rs[a]? = some r ∧ r ∈ rs ∧ atI (rs.map V.ref) (a : Int) = some (.ref r) ∧ H r = some (.lst (rowV n (G a))) := by
  have hl : a < rs.length := by rw [g.len]; exact h
  have e : rs[a]? = some rs[a] := List.getElem?_eq_getElem hl
  exact ⟨rs[a], e, List.mem_of_getElem? e, at_of rfl (by rw [List.getElem?_map, e]; rfl), g.row a _ e⟩
theorem Grid.set {H : Hp} {p : Addr} {rs : List Addr} {n : Nat} {G : Nat → Nat → V} (g : Grid H p rs n G) {a b : Nat} {r : Addr} (hr : rs[a]? = some r) (v : V) : Grid (upd H r (.lst ((rowV n (G a)).set b v))) p rs n (fun x y => if x = a ∧ y = b then v else G x y) := by
  have hm := List.mem_of_getElem? hr
  refine ⟨by rw [upd_ne (fun z => g.out (by rw [z]; exact hm))]; exact g.top, g.len, g.nd, g.out, fun x r' hr' => ?_⟩
  by_cases c : x = a
  · subst c
    rw [hr] at hr'
    cases hr'
    rw [upd_same, rowV_set]
    congr 2
    exact rowV_congr fun i _ => by simp
  · have : r' ≠ r := fun z => by
      subst z
      exact c (nd_ix g.nd hr' hr)
    rw [upd_ne this, g.row x r' hr']
    congr 2
    exact rowV_congr fun i _ => by simp [c]
theorem Grid.congr {H : Hp} {p : Addr} {rs : List Addr} {n : Nat} {G G' : Nat → Nat → V} (g : Grid H p rs n G) (h : ∀ a b, a < n → b < n → G a b = G' a b) : Grid H p rs n G' :=
  ⟨g.top, g.len, g.nd, g.out, fun a r hr => by
    have ha : a < n := by rw [← g.len]; exact (List.getElem?_eq_some_iff.mp hr).1
    rw [g.row a r hr]
    congr 2
    exact rowV_congr fun i hi => h a i ha hi⟩
theorem same_set2 {H H1 : Hp} {a : Addr} {o : HO} (s : Same H H1) (h : H a = none) : Same H (upd H1 a o) := fun b x e => by
  rw [upd_ne (ne_of_none e h)]; exact s _ _ e
end Kx
namespace MN
open PySem PyProof.Rows
mutual
def ltD : PyData → PyData → Bool
  | .int a, .int b => decide (a < b)
  | .tuple xs, .tuple ys => ltAll xs ys
  | _, _ => false
def ltAll : List PyData → List PyData → Bool
  | [], [] => false
  | [], _ :: _ => true
  | _ :: _, [] => false
  | x :: xs, y :: ys => if PyData.eqv x y = true then ltAll xs ys else ltD x y
end
theorem ltAll_nn : ltAll [] [] = false := by simp [ltAll]
theorem ltAll_nc (y : PyData) (ys : List PyData) : ltAll [] (y :: ys) = true := by simp [ltAll]
theorem ltAll_cn (x : PyData) (xs : List PyData) : ltAll (x :: xs) [] = false := by simp [ltAll]
theorem ltAll_cc (x y : PyData) (xs ys : List PyData) : ltAll (x :: xs) (y :: ys) = if PyData.eqv x y = true then ltAll xs ys else ltD x y := by rw [ltAll]
def Uni : Nat → PyData → Prop
  | 0, d => ∃ i, d = .int i
  | n + 1, d => ∃ ds, d = .tuple ds ∧ ∀ x ∈ ds, Uni n x
end MN
namespace L2
open PySem PySem.Spec PyProof.Rows
def bestD (ds : List PyData) : Nat := argBest (fun i j => MN.ltD (ds.getD i .none) (ds.getD j .none)) (ds.length - 1)
theorem DpAll.get {K : PySem.W.Frag} {H : Hp} : ∀ {xs : List V} {ds : List PyData}, DpAll K H xs ds → xs.length = ds.length ∧ ∀ (i : Nat) v d, xs[i]? = some v → ds[i]? = some d → Dp K H v d
  | _, _, .nil => ⟨rfl, fun i v d h => by simp at h⟩
  | _, _, .cons r rs => by
    obtain ⟨l, q⟩ := DpAll.get rs
    refine ⟨by simp [l], fun i v d hv hd => ?_⟩
    cases i with
    | zero =>
      have e1 := Option.some.inj hv
      have e2 := Option.some.inj hd
      subst e1 e2
      exact r
    | succ i => exact q i v d (by simpa using hv) (by simpa using hd)
end L2
namespace Ev
open Rg Nm
def hN (f : List Int) (x : Nat) : Nat := (F f (x : Int)).toNat
end Ev
namespace Ev
end Ev
namespace Ev
open Rg Nm
def rl (n L p : Nat) : Nat := min L (n - p / L * L)
def np (n L p : Nat) : Nat := p / L * L + (p % L + 1) % rl n L p
end Ev
namespace Ev
end Ev
namespace L2
open PySem PySem.Spec PyProof.Rows
section
variable {X : Cx}
structure QS (X : Cx) (st : Stmt) (t : TS) : Prop where
  out : PS X st t
structure QSs (X : Cx) (st : List Stmt) (t : TS) : Prop where
  out : PSs X st t
theorem qs_set {i : Nat} {x : Str} {e : Expr} {te : TE} {pos' pos : Pos} (hN : X.N.Nodup) (hi : X.N[i]? = some x) (hx : Loc X.env.scope x) (he : QE X e te) (hs : swapsWith e (some (.Name x pos')) pos.line X.env = pure false := by rfl) (hf : X.fn x = true ∨ X.env.scope.names.lookup x = some .local := by first | exact .inl rfl | exact .inr rfl | assumption) :
    QS X (.Assign [.Name x pos'] e pos) (tAsg te (gName i)) := ⟨ps_set hN hi hx he.out hs hf⟩
theorem qss_consR {st : Stmt} {rest : List Stmt} {t u : TS} (h1 : QS X st t) (h2 : PSs X rest u) : QSs X (st :: rest) (tSeq t u) := ⟨pss_cons h1.out h2⟩
theorem pss_consQ {st : Stmt} {rest : List Stmt} {t u : TS} (h1 : PS X st t) (h2 : QSs X rest u) : PSs X (st :: rest) (tSeq t u) := pss_cons h1 h2.out
end
end L2
namespace Kx
open PySem L2
def top (i : Nat) : Stmt := PySem.Challenge.pw_likewebs_k31_namings_that_fit.main.body.getD i (.Pass ⟨0, 0, 0, 0⟩)
abbrev s_iswhole : Stmt := top 8
abbrev s_isbetween : Stmt := top 9
abbrev s_eachonce : Stmt := top 11
abbrev s_isnaming : Stmt := top 12
abbrev s_back : Stmt := top 13
abbrev s_carriedrow : Stmt := top 15
abbrev s_iscolour : Stmt := top 17
abbrev s_ismark : Stmt := top 18
abbrev s_iscorner : Stmt := top 19
abbrev s_arecolours : Stmt := top 20
abbrev s_isarrow : Stmt := top 21
abbrev s_marksof : Stmt := top 22
abbrev s_tiesof : Stmt := top 23
abbrev s_Winit : Stmt := inClass (top 24) 0
abbrev s_Wlen : Stmt := inClass (top 24) 3
abbrev s_renamed : Stmt := top 25
abbrev s_leads : Stmt := top 26
abbrev s_isrow : Stmt := top 28
abbrev s_ckrow : Stmt := top 29
abbrev s_fits : Stmt := top 31
abbrev s_ftake : Stmt := top 33
abbrev s_fkinds : Stmt := top 34
abbrev s_fentry : Stmt := top 35
abbrev s_fweb : Stmt := top 36
abbrev s_forder : Stmt := top 37
abbrev s_frenamed : Stmt := top 38
abbrev s_fmade : Stmt := top 39
abbrev s_fchanged : Stmt := top 40
abbrev s_ftwo : Stmt := top 41
abbrev s_frows : Stmt := top 42
abbrev s_fisnaming : Stmt := top 43
abbrev s_fisfit : Stmt := top 44
abbrev s_fmay : Stmt := top 45
abbrev s_ffitting : Stmt := top 46
abbrev s_fsays : Stmt := top 47
abbrev s_foddnam : Stmt := top 48
abbrev s_fexchanged : Stmt := top 49
abbrev s_law : Stmt := top 50
abbrev s_Weq : Stmt := inClass (top 24) 2
abbrev s_Wrepr : Stmt := inClass (top 24) 5
structure Txt (mg : Str → Option Value) : Prop where
  all : mg "all" = none
  bool : mg "bool" = none
  enumerate : mg "enumerate" = none
  int : mg "int" = none
  isinstance : mg "isinstance" = none
  len : mg "len" = none
  list : mg "list" = none
  max : mg "max" = none
  min : mg "min" = none
  range : mg "range" = none
  repr : mg "repr" = none
  set : mg "set" = none
  sorted : mg "sorted" = none
  tuple : mg "tuple" = none
  MOST : ∃ t, mg "MOST" = some (.int 12 t)
  GREATEST : ∃ t, mg "GREATEST" = some (.int 1000000000 t)
abbrev TI (H : Hp) (a : Addr) (xs : List Int) : Prop := H a = some (.tup (xs.map V.int))
end Kx
namespace Kx
open PySem L2
def MOk (n : Nat) (M : Nat → Nat → Int) : Prop := (∀ a, a < n → M a a = 0) ∧ ∀ a b, a < n → b < n → 0 ≤ M a b ∧ M a b ≤ 1000000000
abbrev IG (M : Nat → Nat → Int) : Nat → Nat → V := fun a b => .int (M a b)
theorem MOk.set {n : Nat} {M : Nat → Nat → Int} (h : MOk n M) {x y : Nat} {v : Int} (ne : x ≠ y) (v0 : 0 ≤ v) (v1 : v ≤ 1000000000) : MOk n (fun a b => if a = x ∧ b = y then v else M a b) := by
  refine ⟨fun a ha => ?_, fun a b ha hb => ?_⟩
  · show (if a = x ∧ a = y then v else M a a) = 0
    rw [if_neg (fun z => ne (z.1.symm.trans z.2))]; exact h.1 a ha
  · show 0 ≤ (if a = x ∧ b = y then v else M a b) ∧ (if a = x ∧ b = y then v else M a b) ≤ 1000000000
    split
    · exact ⟨v0, v1⟩
    · exact h.2 a b ha hb
theorem igSet {M : Nat → Nat → Int} {x y : Nat} {v : Int} : (fun a b => if a = x ∧ b = y then V.int v else IG M a b) = IG (fun a b => if a = x ∧ b = y then v else M a b) := by
  funext a b
  show (if a = x ∧ b = y then V.int v else V.int (M a b)) = V.int (if a = x ∧ b = y then v else M a b)
  split <;> rfl
end Kx
namespace Kx
open PySem L2
theorem Grid.getI {H : Hp} {p : Addr} {rs : List Addr} {n : Nat} {G : Nat → Nat → V} (g : Grid H p rs n G) {x : Int} (h : Rg.In n x) : ∃ r, rs[x.toNat]? = some r ∧ r ∈ rs ∧ atI (rs.map V.ref) x = some (.ref r) ∧ H r = some (.lst (rowV n (G x.toNat))) := by
  have h0 := h.1
  have h1 := h.2
  obtain ⟨r, a, b, c, d⟩ := g.get (a := x.toNat) (by omega)
  exact ⟨r, a, b, by rw [show x = ((x.toNat : Nat) : Int) by omega]; exact c, d⟩
theorem rowV_atI {n : Nat} {g : Nat → V} {x : Int} (h : Rg.In n x) : atI (rowV n g) x = some (g x.toNat) := by
  have h0 := h.1
  have h1 := h.2
  exact at_of (j := x.toNat) (by omega) (rowV_get (by omega))
end Kx
namespace Kx
end Kx
namespace Kx
open PySem L2
theorem Grid.fresh {H : Hp} {p l : Addr} {rs : List Addr} {n : Nat} {G : Nat → Nat → V} (g : Grid H p rs n G) (h : H l = none) : l ∉ rs := fun hr => by
  obtain ⟨a, ha⟩ := List.mem_iff_getElem?.mp hr
  rw [g.row a _ ha] at h
  cases h
end Kx
namespace Kx
open PySem L2
def sp_iswhole : Sp := fun vs H Q _ => ∃ (x : V) (k : Kd), vs = [x] ∧ kdOf H x = some k ∧ Q (.bl (decide (k = Kd.int))) H
def sp_isbetween : Sp := fun vs H Q _ => ∃ (x : V) (k : Kd) (lo hi : Int), vs = [x, .int lo, .int hi] ∧ kdOf H x = some k ∧ Q (.bl (btw x lo hi)) H
def sp_is1 (lo hi : Int) : Sp := fun vs H Q _ => ∃ (x : V) (k : Kd), vs = [x] ∧ kdOf H x = some k ∧ Q (.bl (btw x lo hi)) H
def sp_iscorner : Sp := fun vs H Q _ => ∃ (x : V) (k : Kd) (n : Int), vs = [.int n, x] ∧ kdOf H x = some k ∧ Q (.bl (btw x 0 (n - 1))) H
def colsOk (xs : List V) : Bool := decide (xs.length ≤ 12) && xs.all fun x => btw x 0 1000000000
def sp_arecolours (K : PySem.W.Frag) : Sp := fun vs H Q _ => ∃ (p : Addr) (xs : List V), vs = [.ref p] ∧ (H p = some (.lst xs) ∨ H p = some (.tup xs)) ∧ (∀ y ∈ xs, ∃ k, kdOf H y = some k) ∧ xs.length ≤ 1000 ∧
  ∀ (H' : Hp), Same H H' → Q (.bl (colsOk xs)) H'
theorem kdOf_same {H H' : Hp} (s : Same H H') {x : V} {k : Kd} (h : kdOf H x = some k) : kdOf H' x = some k := by
  cases x with
  | ref a =>
    unfold kdOf at h ⊢
    simp only at h ⊢
    cases e : H a with
    | none => rw [e] at h; cases h
    | some o => rw [s _ _ e]; rw [e] at h; exact h
  | _ => exact h
section
variable {P : Program} {w : World} {K : PySem.W.Frag} {mg : Str → Option Value} {base : Heap}
theorem sc_iswhole : FnScope ["thing"] ["thing"] (defScope s_iswhole) := ⟨rfl, rfl, rfl, by decide +kernel, rfl, by decide +kernel, by decide +kernel⟩
theorem ok_iswhole {f : Addr} {fd : FuncData} (F : Fun K "is_whole" "is_whole" s_iswhole f fd) (T : Txt mg) : FnOk P w K mg base CX0 1 f fd ["thing"] sp_iswhole := by
  refine F.ok sc_iswhole (fun vs H Q E h => ?_) (fun cdv A outer s H vs Q E hr h => ?_)
  · obtain ⟨x, k, rfl, _⟩ := h
    rfl
  · have nd := sc_iswhole.nd
    obtain ⟨x, k, rfl, hk, fin⟩ := h
    refine ⟨_, (pss_one (ps_ret (pe_and (pe_callB cr_isi (by rfl) T.isinstance (by decide +kernel) (pa_cons (pv 0) (pa_cons (pe_bltn (v := .ty "int") (by rfl) T.int (by decide +kernel) rfl) pa_nil))) (pe_one (pe_not (pe_callB cr_isi (by rfl) T.isinstance (by decide +kernel) (pa_cons (pv 0) (pa_cons (pe_bltn (v := .ty "bool") (by rfl) T.bool (by decide +kernel) rfl) pa_nil)))))))), ?_⟩
    refine ⟨_, rfl, x, k, Kd.int, rfl, hk, _, rfl, ?_⟩
    cases k with
    | int => exact ⟨_, rfl, x, _, Kd.bl, rfl, hk, _, rfl, fin⟩
    | bl => exact ⟨_, rfl, x, _, Kd.bl, rfl, hk, _, rfl, fin⟩
    | non => exact fin
    | str => exact fin
    | lst => exact fin
    | tup => exact fin
    | dct => exact fin
theorem sc_isbetween : FnScope ["thing", "low", "high"] ["thing", "low", "high"] (defScope s_isbetween) := ⟨rfl, rfl, rfl, by decide +kernel, rfl, by decide +kernel, by decide +kernel⟩
theorem ok_isbetween {f : Addr} {fd : FuncData} (F : Fun K "is_between" "is_between" s_isbetween f fd) (T : Txt mg) (F_iswhole : Fn P w K mg base "is_whole" 1 ["thing"] sp_iswhole) : FnOk P w K mg base CX0 2 f fd ["thing", "low", "high"] sp_isbetween := by
  refine F.ok sc_isbetween (fun vs H Q E h => ?_) (fun cdv A outer s H vs Q E hr h => ?_)
  · obtain ⟨x, k, lo, hi, rfl, _⟩ := h
    rfl
  · have nd := sc_isbetween.nd
    obtain ⟨x, k, lo, hi, rfl, hk, fin⟩ := h
    refine ⟨_, (pss_one (ps_ret (pe_and (pe_fn F_iswhole hr (pa_cons (pv 0) pa_nil)) (pe_one (pe_chain op_le op_le (pv 1) (pv 0) (pv 2)))))), ?_⟩
    refine ⟨_, rfl, x, k, rfl, hk, _, rfl, ?_⟩
    by_cases e : k = Kd.int
    · obtain ⟨i, rfl⟩ := (kd_int hk).mp e
      rw [decide_eq_true e]
      refine ⟨_, rfl, _, rfl, _, _, rfl, rfl, _, rfl, ?_⟩
      have fin : Q (.bl (decide (lo ≤ i) && decide (i ≤ hi))) H := fin
      by_cases h1 : lo ≤ i
      · rw [decide_eq_true h1] at fin ⊢
        rw [Bool.true_and] at fin
        exact ⟨_, rfl, _, _, rfl, rfl, fin⟩
      · rw [decide_eq_false h1] at fin ⊢
        rw [Bool.false_and] at fin
        exact fin
    · rw [decide_eq_false e]
      have eb : btw x lo hi = false := by
        cases x with
        | int i => exact absurd ((kd_int hk).mpr ⟨i, rfl⟩) e
        | _ => rfl
      rw [eb] at fin
      exact fin
theorem sc_iscolour : FnScope ["thing"] ["thing"] (defScope s_iscolour) := ⟨rfl, rfl, rfl, by decide +kernel, rfl, by decide +kernel, by decide +kernel⟩
theorem ok_iscolour {f : Addr} {fd : FuncData} (F : Fun K "is_colour" "is_colour" s_iscolour f fd) (T : Txt mg) (F_isbetween : Fn P w K mg base "is_between" 2 ["thing", "low", "high"] sp_isbetween) : FnOk P w K mg base CX0 3 f fd ["thing"] (sp_is1 0 1000000000) := by
  refine F.ok sc_iscolour (fun vs H Q E h => ?_) (fun cdv A outer s H vs Q E hr h => ?_)
  · obtain ⟨x, k, rfl, _⟩ := h
    rfl
  · have nd := sc_iscolour.nd
    obtain ⟨x, k, rfl, hk, fin⟩ := h
    obtain ⟨t_G, h_GREATEST⟩ := T.GREATEST
    refine ⟨_, (pss_one (ps_ret (pe_fn F_isbetween hr (pa_cons (pv 0) (pa_cons pe_int (pa_cons (pe_glob (v := .int 1000000000) (by rfl) h_GREATEST ⟨_, rfl⟩) pa_nil)))))), ?_⟩
    exact ⟨_, rfl, x, k, _, _, rfl, hk, fin⟩
theorem sc_ismark : FnScope ["thing"] ["thing"] (defScope s_ismark) := ⟨rfl, rfl, rfl, by decide +kernel, rfl, by decide +kernel, by decide +kernel⟩
theorem ok_ismark {f : Addr} {fd : FuncData} (F : Fun K "is_mark" "is_mark" s_ismark f fd) (T : Txt mg) (F_isbetween : Fn P w K mg base "is_between" 2 ["thing", "low", "high"] sp_isbetween) : FnOk P w K mg base CX0 3 f fd ["thing"] (sp_is1 1 1000000000) := by
  refine F.ok sc_ismark (fun vs H Q E h => ?_) (fun cdv A outer s H vs Q E hr h => ?_)
  · obtain ⟨x, k, rfl, _⟩ := h
    rfl
  · have nd := sc_ismark.nd
    obtain ⟨x, k, rfl, hk, fin⟩ := h
    obtain ⟨t_G, h_GREATEST⟩ := T.GREATEST
    refine ⟨_, (pss_one (ps_ret (pe_fn F_isbetween hr (pa_cons (pv 0) (pa_cons pe_int (pa_cons (pe_glob (v := .int 1000000000) (by rfl) h_GREATEST ⟨_, rfl⟩) pa_nil)))))), ?_⟩
    exact ⟨_, rfl, x, k, _, _, rfl, hk, fin⟩
theorem sc_iscorner : FnScope ["many", "thing"] ["many", "thing"] (defScope s_iscorner) := ⟨rfl, rfl, rfl, by decide +kernel, rfl, by decide +kernel, by decide +kernel⟩
theorem ok_iscorner {f : Addr} {fd : FuncData} (F : Fun K "is_corner" "is_corner" s_iscorner f fd) (T : Txt mg) (F_isbetween : Fn P w K mg base "is_between" 2 ["thing", "low", "high"] sp_isbetween) : FnOk P w K mg base CX0 3 f fd ["many", "thing"] sp_iscorner := by
  refine F.ok sc_iscorner (fun vs H Q E h => ?_) (fun cdv A outer s H vs Q E hr h => ?_)
  · obtain ⟨x, k, n, rfl, _⟩ := h
    rfl
  · have nd := sc_iscorner.nd
    obtain ⟨x, k, n, rfl, hk, fin⟩ := h
    refine ⟨_, (pss_one (ps_ret (pe_fn F_isbetween hr (pa_cons (pv 1) (pa_cons pe_int (pa_cons (pe_op op_sub (pv 0) pe_int) pa_nil)))))), ?_⟩
    exact ⟨_, rfl, _, rfl, _, _, rfl, rfl, x, k, _, _, rfl, hk, fin⟩
theorem sc_arecolours : FnScope ["thing", "colour"] ["thing"] (defScope s_arecolours) := ⟨rfl, rfl, rfl, by decide +kernel, rfl, by decide +kernel, by decide +kernel⟩
theorem ok_arecolours {f : Addr} {fd : FuncData} (F : Fun K "are_colours" "are_colours" s_arecolours f fd) (T : Txt mg) (F_iscolour : Fn P w K mg base "is_colour" 3 ["thing"] (sp_is1 0 1000000000)) : FnOk P w K mg base CX0 4 f fd ["thing"] (sp_arecolours K) := by
  refine F.ok sc_arecolours (fun vs H Q E h => ?_) (fun cdv A outer s H vs Q E hr h => ?_)
  · obtain ⟨p, xs, rfl, _⟩ := h
    rfl
  · have nd := sc_arecolours.nd
    obtain ⟨p, xs, rfl, hp, hkd, hl, fin⟩ := h
    obtain ⟨t_M, h_MOST⟩ := T.MOST
    have hq : SqL K H p xs ∨ SqT K H p xs := hp.imp SqL.of SqT.of
    obtain ⟨k, hk, hk2⟩ : ∃ k, kdOf H (.ref p) = some k ∧ anyKd k [Kd.lst, Kd.tup] = true := by
      rcases hp with h | h
      · exact ⟨.lst, by unfold kdOf; simp only [h], rfl⟩
      · exact ⟨.tup, by unfold kdOf; simp only [h], rfl⟩
    refine ⟨_, (pss_one (ps_ret (pe_and (pe_callB cr_isiT (by rfl) T.isinstance (by decide +kernel) (pa_cons (pv 0) (pa_cons (pe_tup (pa_cons (pe_bltn (v := .ty "list") (by rfl) T.list (by decide +kernel) rfl) (pa_cons (pe_bltn (v := .ty "tuple") (by rfl) T.tuple (by decide +kernel) rfl) pa_nil))) pa_nil))) (pe_and (pe_cmpR op_le (pe_callB (call_lenK (K := K)) (by rfl) T.len (by decide +kernel) (pa_cons (pv 0) pa_nil)) (pe_glob (v := .int 12) (by rfl) h_MOST ⟨_, rfl⟩) (nomark _)) (pe_one (pe_callB (cr_allK (K := K) rfl) (by rfl) T.all (by decide +kernel) (pa_cons (pe_lc (own := [("colour", 1)]) (g := gName 1) (by rfl) nd (pi_seqK (K := K) (pv 0)) (blkOk_by (own := [("colour", 1)]) (N := ["thing", "colour"]) (sc := defScope s_arecolours) (by decide +kernel)) (fun _ _ _ _ _ => (pg_name (i := 1) nd rfl (Or.inl rfl))) (fun _ _ _ _ _ => pts_nil) (fun _ _ _ _ _ => (pe_fn F_iscolour hr (pa_cons (pv 1) pa_nil)))) pa_nil))))))), ?_⟩
    have two : (2 : Nat) ≤ sizeLine := by decide
    refine ⟨_, rfl, two, fun q hq0 => ⟨_, q, k, [Kd.lst, Kd.tup], rfl, upd_same, kdOf_same (Same.new hq0) hk, _, rfl, ?_⟩⟩
    rw [hk2]
    have s1 : Same H (upd H q (.tup [V.ty (Kd.name .lst), V.ty (Kd.name .tup)])) := Same.new hq0
    have hp1 := hp.imp (s1 _ _) (s1 _ _)
    refine ⟨_, rfl, p, _, rfl, hp1.imp SqL.of SqT.of, _, _, rfl, rfl, _, rfl, ?_⟩
    have fin : ∀ (H' : Hp), Same H H' → Q (.bl (decide (xs.length ≤ 12) && xs.all fun x => btw x 0 1000000000)) H' := fin
    by_cases h12 : xs.length ≤ 12
    · rw [decide_eq_true (show ((xs.length : Nat) : Int) ≤ 12 by omega)]
      rw [decide_eq_true h12] at fin
      -- each colour
      have body : ∀ (i : Nat) (x : V) (H' : Hp) (D : Addr), xs[i]? = some x → Same (upd H q (.tup [V.ty (Kd.name .lst), V.ty (Kd.name .tup)])) H' → ∃ kx, kdOf H' x = some kx := fun i x H' D hx hS => by
        obtain ⟨kx, hkx⟩ := hkd x (List.mem_of_getElem? hx)
        exact ⟨kx, kdOf_same (s1.trans hS) hkx⟩
      rcases hp1 with hp1 | hp1
      · refine ⟨_, rfl, p, rfl, .inl ⟨⟨_, SqL.of hp1⟩, fun D hD => ?_⟩⟩
        refine lc_list (K := K) (a := p) (xs := xs) (fun i H' => Same (upd H q (.tup [V.ty (Kd.name .lst), V.ty (Kd.name .tup)])) H' ∧ H' D = some (.lst (((xs.take i).map fun x => btw x 0 1000000000).map V.bl))) ⟨Same.new hD, upd_same⟩ (fun i H' _ h => SqL.of (h.1 _ _ hp1)) ?_ ?_
        · rintro i x H' hx ⟨hS, hDl⟩
          obtain ⟨kx, hkx⟩ := body i x H' D hx hS
          have hi := (List.getElem?_eq_some_iff.mp hx).1
          refine ⟨rfl, _, rfl, x, kx, rfl, hkx, _, hDl, ?_, fun b o e => ?_, ?_⟩
          · rw [List.length_map, List.length_map, List.length_take]; exact small1000 (by omega)
          · rw [upd_ne (ne_of_none e hD)]; exact hS _ _ e
          · rw [upd_same, List.take_succ, hx]; simp
        · rintro H' ⟨hS, hDl⟩
          rw [List.take_length] at hDl
          refine ⟨D, _, rfl, SqL.of hDl, ?_⟩
          have e : (xs.map fun x => btw x 0 1000000000).all id = xs.all fun x => btw x 0 1000000000 := by rw [List.all_map]; rfl
          rw [e]
          exact fin _ (s1.trans hS)
      · refine ⟨_, rfl, p, rfl, .inr ⟨⟨_, SqT.of hp1⟩, fun D hD => ?_⟩⟩
        refine lc_tup (K := K) (a := p) (xs := xs) (fun i H' => Same (upd H q (.tup [V.ty (Kd.name .lst), V.ty (Kd.name .tup)])) H' ∧ H' D = some (.lst (((xs.take i).map fun x => btw x 0 1000000000).map V.bl))) ⟨Same.new hD, upd_same⟩ (fun i H' _ h => SqT.of (h.1 _ _ hp1)) ?_ ?_
        · rintro i x H' hx ⟨hS, hDl⟩
          obtain ⟨kx, hkx⟩ := body i x H' D hx hS
          have hi := (List.getElem?_eq_some_iff.mp hx).1
          refine ⟨rfl, _, rfl, x, kx, rfl, hkx, _, hDl, ?_, fun b o e => ?_, ?_⟩
          · rw [List.length_map, List.length_map, List.length_take]; exact small1000 (by omega)
          · rw [upd_ne (ne_of_none e hD)]; exact hS _ _ e
          · rw [upd_same, List.take_succ, hx]; simp
        · rintro H' ⟨hS, hDl⟩
          rw [List.take_length] at hDl
          refine ⟨D, _, rfl, SqL.of hDl, ?_⟩
          have e : (xs.map fun x => btw x 0 1000000000).all id = xs.all fun x => btw x 0 1000000000 := by rw [List.all_map]; rfl
          rw [e]
          exact fin _ (s1.trans hS)
    · rw [decide_eq_false (show ¬ ((xs.length : Nat) : Int) ≤ 12 by omega)]
      rw [decide_eq_false h12] at fin
      exact fin _ s1
end
end Kx
namespace Kx
open PySem L2
def RowAt (H : Hp) (t : Addr) (r : R3) : Prop := H t = some (.lst ((tlR r).map V.int)) ∨ H t = some (.tup ((tlR r).map V.int))
theorem RowAt.same {H H' : Hp} (s : Same H H') {t : Addr} {r : R3} (h : RowAt H t r) : RowAt H' t r := h.imp (s _ _) (s _ _)
structure OkR (n : Nat) (r : R3) : Prop where
  a0 : 0 ≤ r.1
  a1 : r.1 < n
  b0 : 0 ≤ r.2.1
  b1 : r.2.1 < n
  ne : r.1 ≠ r.2.1
  m0 : 1 ≤ r.2.2
  m1 : r.2.2 ≤ 1000000000
def sp_isarrow : Sp := fun vs H Q _ => ∃ (n : Nat) (t : Addr) (r : R3), vs = [.int n, .ref t] ∧ RowAt H t r ∧ OkR n r ∧ ∀ H', Same H H' → Q (.bl true) H'
section
variable {P : Program} {w : World} {K : PySem.W.Frag} {mg : Str → Option Value} {base : Heap}
theorem sc_isarrow : FnScope ["many", "thing", "start", "end", "mark"] ["many", "thing"] (defScope s_isarrow) := ⟨rfl, rfl, rfl, by decide +kernel, rfl, by decide +kernel, by decide +kernel⟩
theorem ok_isarrow {f : Addr} {fd : FuncData} (F : Fun K "is_arrow" "is_arrow" s_isarrow f fd) (T : Txt mg) (F_iscorner : Fn P w K mg base "is_corner" 3 ["many", "thing"] sp_iscorner) (F_ismark : Fn P w K mg base "is_mark" 3 ["thing"] (sp_is1 1 1000000000)) : FnOk P w K mg base CX0 4 f fd ["many", "thing"] sp_isarrow := by
  refine F.ok sc_isarrow (fun vs H Q E h => ?_) (fun cdv A outer s H vs Q E hr h => ?_)
  · obtain ⟨n, t, r, rfl, _⟩ := h
    rfl
  · have nd := sc_isarrow.nd
    obtain ⟨n, t, r, rfl, hrow, ok, fin⟩ := h
    refine ⟨_, (pss_cons (ps_if (PW.pt (pw_or (pt_not (pt_val (pe_callB cr_isiT (by rfl) T.isinstance (by decide +kernel) (pa_cons (pv 1) (pa_cons (pe_tup (pa_cons (pe_bltn (v := .ty "list") (by rfl) T.list (by decide +kernel) rfl) (pa_cons (pe_bltn (v := .ty "tuple") (by rfl) T.tuple (by decide +kernel) rfl) pa_nil))) pa_nil))))) (pw_or1 (pt_cmpR op_ne (pe_callB (call_lenK (K := K)) (by rfl) T.len (by decide +kernel) (pa_cons (pv 1) pa_nil)) pe_int (nomark _)))))
      (pss_one (ps_ret pe_bl))
      pss_nil)
      (pss_cons (ps_asg (pv 1) (pg_seqK (K := K) rfl (pgs_cons (pg_name (i := 2) nd rfl (Or.inl rfl)) (pgs_cons (pg_name (i := 3) nd rfl (Or.inl rfl)) (pgs_cons (pg_name (i := 4) nd rfl (Or.inl rfl)) pgs_nil)))))
      (pss_one (ps_ret (pe_and (pe_fn F_iscorner hr (pa_cons (pv 0) (pa_cons (pv 2) pa_nil))) (pe_and (pe_fn F_iscorner hr (pa_cons (pv 0) (pa_cons (pv 3) pa_nil))) (pe_and (pe_cmpR op_ne (pv 2) (pv 3) (nomark _)) (pe_one (pe_fn F_ismark hr (pa_cons (pv 4) pa_nil)))))))))), ?_⟩
    obtain ⟨k, hk, hk2⟩ : ∃ k, kdOf H (.ref t) = some k ∧ anyKd k [Kd.lst, Kd.tup] = true := by
      rcases hrow with h | h
      · exact ⟨.lst, by unfold kdOf; simp only [h], rfl⟩
      · exact ⟨.tup, by unfold kdOf; simp only [h], rfl⟩
    have two : (2 : Nat) ≤ sizeLine := by decide
    refine ⟨_, rfl, two, fun q hq0 => ⟨_, q, k, [Kd.lst, Kd.tup], rfl, upd_same, kdOf_same (Same.new hq0) hk, _, rfl, ?_⟩⟩
    rw [hk2]
    have s1 : Same H (upd H q (.tup [V.ty (Kd.name .lst), V.ty (Kd.name .tup)])) := Same.new hq0
    have hr1 := hrow.same s1
    have hq1 := hr1.imp (SqL.of (K := K)) (SqT.of (K := K))
    refine ⟨_, rfl, t, _, rfl, hq1, rfl, _, rfl, ?_⟩
    refine ⟨_, rfl, t, _, rfl, hq1, rfl, ?_⟩
    have c1 : btw (.int r.1) 0 ((n : Int) - 1) = true := by have := ok.a0; have := ok.a1; simp only [btw, Bool.and_eq_true, decide_eq_true_eq]; omega
    have c2 : btw (.int r.2.1) 0 ((n : Int) - 1) = true := by have := ok.b0; have := ok.b1; simp only [btw, Bool.and_eq_true, decide_eq_true_eq]; omega
    have c3 : btw (.int r.2.2) 1 1000000000 = true := by have := ok.m0; have := ok.m1; simp only [btw, Bool.and_eq_true, decide_eq_true_eq]; omega
    refine ⟨_, _, rfl, _, _, rfl, _, _, rfl, rfl, ?_⟩
    refine ⟨_, rfl, _, rfl, .int r.1, Kd.int, n, rfl, rfl, _, rfl, ?_⟩
    rw [c1]
    refine ⟨_, rfl, _, rfl, .int r.2.1, Kd.int, n, rfl, rfl, _, rfl, ?_⟩
    rw [c2]
    refine ⟨_, rfl, _, rfl, rfl, _, rfl, ?_⟩
    have e : (!decide (V.int r.1 = V.int r.2.1)) = true := by rw [decide_eq_false (fun z => ok.ne (by injection z))]; rfl
    rw [e]
    refine ⟨_, rfl, .int r.2.2, Kd.int, rfl, rfl, ?_⟩
    rw [c3]
    exact fin _ s1
end
end Kx
namespace Kx
open PySem L2
def ArrS (K : PySem.W.Frag) (H : Hp) (a : Addr) (ts : List Addr) (E : List R3) : Prop := (SqL K H a (ts.map V.ref) ∨ SqT K H a (ts.map V.ref)) ∧ Paired (RowAt H) ts E
theorem ArrS.same {K : PySem.W.Frag} {H H' : Hp} (s : Same H H') {a : Addr} {ts : List Addr} {E : List R3} (h : ArrS K H a ts E) : ArrS K H' a ts E :=
  ⟨h.1.imp s.seq s.seqT, Paired.mapP h.2 fun _ _ z => z.same s⟩
structure WOk (cols : List Int) (E : List R3) : Prop where
  len : cols.length ≤ 12
  col : ∀ x ∈ cols, 0 ≤ x ∧ x ≤ 1000000000
  row : ∀ r ∈ E, OkR cols.length r
  nd : (E.map prR).Nodup
theorem sub_len {α : Type} [DecidableEq α] : ∀ {l m : List α}, l.Nodup → (∀ x ∈ l, x ∈ m) → l.length ≤ m.length
  | [], _, _, _ => Nat.zero_le _
  | x :: l, m, h, s => by
    have h2 := List.nodup_cons.mp h
    have hx := s x List.mem_cons_self
    have := sub_len (l := l) (m := m.erase x) h2.2 fun y hy => (List.mem_erase_of_ne (fun z => h2.1 (by rw [← z]; exact hy))).mpr (s y (List.mem_cons_of_mem _ hy))
    rw [List.length_erase_of_mem hx] at this
    have := List.length_pos_of_mem hx
    rw [List.length_cons]; omega
theorem WOk.few {cols : List Int} {E : List R3} (h : WOk cols E) : E.length ≤ 144 := by
  have nd : ((E.map prR).map fun p => (12 * p.1 + p.2).toNat).Nodup := by
    rw [List.nodup_iff_pairwise_ne, List.pairwise_map]
    have h0 := h.nd
    rw [List.nodup_iff_pairwise_ne] at h0
    refine h0.imp_of_mem fun {p q} hp hq hne z => hne ?_
    obtain ⟨r, hr, rfl⟩ := List.mem_map.mp hp
    obtain ⟨r', hr', rfl⟩ := List.mem_map.mp hq
    have o := h.row r hr
    have o' := h.row r' hr'
    have l := h.len
    have := o.a0; have := o.a1; have := o.b0; have := o.b1; have := o'.a0; have := o'.a1; have := o'.b0; have := o'.b1
    simp only [prR] at z ⊢
    have e1 : r.1 = r'.1 := by omega
    have e2 : r.2.1 = r'.2.1 := by omega
    rw [e1, e2]
  have := sub_len (m := List.range 144) nd fun x hx => by
    obtain ⟨p, hp, rfl⟩ := List.mem_map.mp hx
    obtain ⟨r, hr, rfl⟩ := List.mem_map.mp hp
    have o := h.row r hr
    have l := h.len
    have := o.a0; have := o.a1; have := o.b0; have := o.b1
    simp only [prR, List.mem_range]
    omega
  simpa using this
def sp_marksof (K : PySem.W.Frag) : Sp := fun vs H Q _ => ∃ (pc pa : Addr) (cols : List Int) (ts : List Addr) (E : List R3), vs = [.ref pc, .ref pa] ∧ (H pc = some (.lst (cols.map V.int)) ∨ H pc = some (.tup (cols.map V.int))) ∧ ArrS K H pa ts E ∧ WOk cols E ∧
  ∀ (d : Addr) (H' : Hp), Same H H' → H d = none → H' d = some (.dT (E.map kvR)) → Q (.ref d) H'
theorem cols_ok {cols : List Int} {E : List R3} (h : WOk cols E) : colsOk (cols.map V.int) = true := by
  unfold colsOk
  rw [List.length_map, decide_eq_true h.len, Bool.true_and, List.all_eq_true]
  intro x hx
  obtain ⟨n, hn, rfl⟩ := List.mem_map.mp hx
  have := h.col n hn
  simp only [btw, Bool.and_eq_true, decide_eq_true_eq]
  omega
section
variable {P : Program} {w : World} {K : PySem.W.Frag} {mg : Str → Option Value} {base : Heap}
theorem sc_marksof : FnScope ["colours", "arrows", "marks", "at", "row"] ["colours", "arrows"] (defScope s_marksof) := ⟨rfl, rfl, rfl, by decide +kernel, rfl, by decide +kernel, by decide +kernel⟩
theorem ok_marksof {f : Addr} {fd : FuncData} (F : Fun K "marks_of" "marks_of" s_marksof f fd) (T : Txt mg) (F_arecolours : Fn P w K mg base "are_colours" 4 ["thing"] (sp_arecolours K)) (F_isarrow : Fn P w K mg base "is_arrow" 4 ["many", "thing"] sp_isarrow) : FnOk P w K mg base CX0 5 f fd ["colours", "arrows"] (sp_marksof K) := by
  refine F.ok sc_marksof (fun vs H Q E h => ?_) (fun cdv A outer s H vs Q E0' hr h => ?_)
  · obtain ⟨pc, pa, cols, ts, E, rfl, _⟩ := h
    rfl
  · have nd := sc_marksof.nd
    obtain ⟨pc, pa, cols, ts, E, rfl, hpc, harr, ok, fin⟩ := h
    refine ⟨_, (pss_cons (ps_if (PW.pt (pw_or (pt_not (pt_val (pe_fn F_arecolours hr (pa_cons (pv 0) pa_nil)))) (pw_or1 (pt_not (pt_val (pe_callB (cr_isiQ (K := K)) (by rfl) T.isinstance (by decide +kernel) (pa_cons (pv 1) (pa_cons (pe_tup (pa_cons (pe_bltn (v := .ty "list") (by rfl) T.list (by decide +kernel) rfl) (pa_cons (pe_bltn (v := .ty "tuple") (by rfl) T.tuple (by decide +kernel) rfl) pa_nil))) pa_nil))))))))
      (pss_one ps_never)
      pss_nil)
      (pss_cons (ps_set (i := 2) nd rfl (Or.inl rfl) pe_dnewT)
      (pss_cons (ps_for PassesOwn.never rfl (pi_enumS (K := K) (by rfl) T.enumerate (pa_cons (pv 1) pa_nil)) (pg_tupK (K := K) rfl (pgs_cons (pg_name (i := 3) nd rfl (Or.inl rfl)) (pgs_cons (pg_name (i := 4) nd rfl (Or.inl rfl)) pgs_nil)))
      (pss_cons (ps_if (PW.pt (pw_or (pt_not (pt_val (pe_fn F_isarrow hr (pa_cons (pe_callB (call_lenK (K := K)) (by rfl) T.len (by decide +kernel) (pa_cons (pv 0) pa_nil)) (pa_cons (pv 4) pa_nil))))) (pw_or1 (pt_cmp (pc_din (hu_of hr) (pe_tup (pa_cons (pe_ix (ix_seqK (K := K)) (pv 4) pe_int (fun _ _ => rfl)) (pa_cons (pe_ix (ix_seqK (K := K)) (pv 4) pe_int (fun _ _ => rfl)) pa_nil))) (pv 2))))))
      (pss_one ps_never)
      pss_nil)
      (pss_one (ps_dput (hu_of hr) (pv 2) (pe_tup (pa_cons (pe_ix (ix_seqK (K := K)) (pv 4) pe_int (fun _ _ => rfl)) (pa_cons (pe_ix (ix_seqK (K := K)) (pv 4) pe_int (fun _ _ => rfl)) pa_nil))) (pe_ix (ix_seqK (K := K)) (pv 4) pe_int (fun _ _ => rfl)) rfl))))
      (pss_one (ps_ret (pv 2)))))), ?_⟩
    have l12 := ok.len
    refine ⟨_, rfl, pc, cols.map V.int, rfl, hpc, ?_, by rw [List.length_map]; omega, fun H1 s1 => ⟨_, rfl, ?_⟩⟩
    · intro y hy
      obtain ⟨n, _, rfl⟩ := List.mem_map.mp hy
      exact ⟨.int, rfl⟩
    rw [cols_ok ok]
    have two : (2 : Nat) ≤ sizeLine := by decide
    refine ⟨_, rfl, two, fun q hq0 => ⟨pa, q, _, rfl, upd_same, (harr.same (s1.step hq0)).1, _, rfl, ?_⟩⟩
    have s2 := s1.step (o := .tup [V.ty "list", V.ty "tuple"]) hq0
    intro d hd
    have s3 := s2.step (o := .dT []) hd
    refine ⟨_, rfl, pa, rfl, ?_⟩
    have hdn : H d = none := s2.free hd
    have hlen : E.length ≤ 144 := ok.few
    have htl : ts.length = E.length := Paired.length harr.2
    rcases harr.1 with hL | hT
    · refine .inl ⟨⟨_, s3.seq hL⟩, for_enum (K := K) (a := pa) (xs := ts.map V.ref) (fun i σ H' => (∃ u v, σ = [some (.ref pc), some (.ref pa), some (.ref d), u, v]) ∧ Same H H' ∧ H' d = some (.dT ((E.take i).map kvR))) ⟨⟨_, _, rfl⟩, s3, upd_same⟩ (fun i σ H' _ h => h.2.1.seq hL) ?_ ?_⟩
      · rintro i x σ H' T' hx ⟨⟨u, v, rfl⟩, sH, hD⟩ hT
        rw [List.getElem?_map] at hx
        obtain ⟨t, ht, rfl⟩ := Option.map_eq_some_iff.mp hx
        obtain ⟨r, hr', hrow⟩ := paired_get harr.2 ht
        have hi := (List.getElem?_eq_some_iff.mp hr').1
        have sT := sH.step (o := .tup [.int (i : Nat), .ref t]) hT
        have dT : d ≠ T' := ne_of_none hD hT
        refine ⟨T', _, rfl, SqT.of upd_same, rfl, _, _, rfl, _, _, rfl, rfl, ?_⟩
        have hcs : SqL K (upd H' T' (.tup [.int (i : Nat), .ref t])) pc (cols.map V.int) ∨ SqT K (upd H' T' (.tup [.int (i : Nat), .ref t])) pc (cols.map V.int) := hpc.imp (fun z => SqL.of (sT _ _ z)) (fun z => SqT.of (sT _ _ z))
        refine ⟨_, rfl, pc, _, rfl, hcs, _, rfl, (cols.map V.int).length, t, r, rfl, hrow.same sT, by rw [List.length_map]; exact ok.row r (List.mem_of_getElem? hr'), fun H2 s4 => ⟨_, rfl, ?_⟩⟩
        have s5 := sT.trans s4
        have row2 := hrow.same s5
        have sq2 := row2.imp (SqL.of (K := K)) (SqT.of (K := K))
        refine ⟨_, rfl, t, _, _, _, rfl, rfl, sq2, at_of (j := 0) rfl rfl, _, rfl, t, _, _, _, rfl, rfl, sq2, at_of (j := 1) rfl rfl, two, fun k1 hk1 => ?_⟩
        have s6 := s5.step (o := .tup [.int r.1, .int r.2.1]) hk1
        have hD2 : H2 d = some (.dT ((E.take i).map kvR)) := s4 _ _ (by rw [upd_ne dT]; exact hD)
        have dk1 : d ≠ k1 := ne_of_none hD2 hk1
        have hD3 : upd H2 k1 (.tup [.int r.1, .int r.2.1]) d = some (.dT ((E.take i).map kvR)) := by rw [upd_ne dk1]; exact hD2
        have hno : lkR (E.take i) r.1 r.2.1 = none := by
          rw [lkR_none]
          intro r' hr2 z
          obtain ⟨j, hj, he⟩ := List.mem_iff_getElem.mp hr2
          have nd2 := ok.nd
          rw [List.nodup_iff_pairwise_ne, List.pairwise_map] at nd2
          rw [List.length_take] at hj
          have hj1 : j < i := by omega
          have e1 : E[j]'(by omega) = r' := by rw [← he, List.getElem_take]
          have e2 : E[i] = r := (List.getElem?_eq_some_iff.mp hr').2
          have := List.pairwise_iff_getElem.mp nd2 j i (by omega) hi hj1
          rw [e1, e2] at this
          exact this z
        refine ⟨_, rfl, d, _, rfl, DGet.t (k := [Sum.inl r.1, Sum.inl r.2.1]) hD3 upd_same, ?_⟩
        rw [valV_kvR, hno]
        refine ⟨_, rfl, ?_⟩
        have row3 := hrow.same s6
        have sq3 := row3.imp (SqL.of (K := K)) (SqT.of (K := K))
        refine ⟨_, rfl, t, _, _, _, rfl, rfl, sq3, at_of (j := 2) rfl rfl, _, rfl, _, rfl, t, _, _, _, rfl, rfl, sq3, at_of (j := 0) rfl rfl, _, rfl, t, _, _, _, rfl, rfl, sq3, at_of (j := 1) rfl rfl, two, fun k2 hk2 => ?_⟩
        have s7 := s6.step (o := .tup [.int r.1, .int r.2.1]) hk2
        have dk2 : d ≠ k2 := ne_of_none hD3 hk2
        refine ⟨d, _, rfl, DPut.t (k := [Sum.inl r.1, Sum.inl r.2.1]) (kvs := (E.take i).map kvR) (by rw [upd_ne dk2]; exact hD3) upd_same (by rw [List.length_map, List.length_take]; exact small1000 (by omega)), ⟨_, _, rfl⟩, fun b o e => ?_, ?_⟩
        · rw [upd_ne (ne_of_none e hdn)]; exact s7 _ _ e
        · rw [upd_same, putK_new _ (by rw [valV_kvR, hno]; rfl), List.take_succ, hr']
          simp [kvR]
      · rintro σ H' ⟨⟨u, v, rfl⟩, sH, hD⟩
        rw [List.length_map, htl, List.take_length] at hD
        exact ⟨_, rfl, fin d H' sH hdn hD⟩
    · refine .inr ⟨⟨_, s3.seqT hT⟩, for_enumT (K := K) (a := pa) (xs := ts.map V.ref) (fun i σ H' => (∃ u v, σ = [some (.ref pc), some (.ref pa), some (.ref d), u, v]) ∧ Same H H' ∧ H' d = some (.dT ((E.take i).map kvR))) ⟨⟨_, _, rfl⟩, s3, upd_same⟩ (fun i σ H' _ h => h.2.1.seqT hT) ?_ ?_⟩
      · rintro i x σ H' T' hx ⟨⟨u, v, rfl⟩, sH, hD⟩ hT
        rw [List.getElem?_map] at hx
        obtain ⟨t, ht, rfl⟩ := Option.map_eq_some_iff.mp hx
        obtain ⟨r, hr', hrow⟩ := paired_get harr.2 ht
        have hi := (List.getElem?_eq_some_iff.mp hr').1
        have sT := sH.step (o := .tup [.int (i : Nat), .ref t]) hT
        have dT : d ≠ T' := ne_of_none hD hT
        refine ⟨T', _, rfl, SqT.of upd_same, rfl, _, _, rfl, _, _, rfl, rfl, ?_⟩
        have hcs : SqL K (upd H' T' (.tup [.int (i : Nat), .ref t])) pc (cols.map V.int) ∨ SqT K (upd H' T' (.tup [.int (i : Nat), .ref t])) pc (cols.map V.int) := hpc.imp (fun z => SqL.of (sT _ _ z)) (fun z => SqT.of (sT _ _ z))
        refine ⟨_, rfl, pc, _, rfl, hcs, _, rfl, (cols.map V.int).length, t, r, rfl, hrow.same sT, by rw [List.length_map]; exact ok.row r (List.mem_of_getElem? hr'), fun H2 s4 => ⟨_, rfl, ?_⟩⟩
        have s5 := sT.trans s4
        have row2 := hrow.same s5
        have sq2 := row2.imp (SqL.of (K := K)) (SqT.of (K := K))
        refine ⟨_, rfl, t, _, _, _, rfl, rfl, sq2, at_of (j := 0) rfl rfl, _, rfl, t, _, _, _, rfl, rfl, sq2, at_of (j := 1) rfl rfl, two, fun k1 hk1 => ?_⟩
        have s6 := s5.step (o := .tup [.int r.1, .int r.2.1]) hk1
        have hD2 : H2 d = some (.dT ((E.take i).map kvR)) := s4 _ _ (by rw [upd_ne dT]; exact hD)
        have dk1 : d ≠ k1 := ne_of_none hD2 hk1
        have hD3 : upd H2 k1 (.tup [.int r.1, .int r.2.1]) d = some (.dT ((E.take i).map kvR)) := by rw [upd_ne dk1]; exact hD2
        have hno : lkR (E.take i) r.1 r.2.1 = none := by
          rw [lkR_none]
          intro r' hr2 z
          obtain ⟨j, hj, he⟩ := List.mem_iff_getElem.mp hr2
          have nd2 := ok.nd
          rw [List.nodup_iff_pairwise_ne, List.pairwise_map] at nd2
          rw [List.length_take] at hj
          have hj1 : j < i := by omega
          have e1 : E[j]'(by omega) = r' := by rw [← he, List.getElem_take]
          have e2 : E[i] = r := (List.getElem?_eq_some_iff.mp hr').2
          have := List.pairwise_iff_getElem.mp nd2 j i (by omega) hi hj1
          rw [e1, e2] at this
          exact this z
        refine ⟨_, rfl, d, _, rfl, DGet.t (k := [Sum.inl r.1, Sum.inl r.2.1]) hD3 upd_same, ?_⟩
        rw [valV_kvR, hno]
        refine ⟨_, rfl, ?_⟩
        have row3 := hrow.same s6
        have sq3 := row3.imp (SqL.of (K := K)) (SqT.of (K := K))
        refine ⟨_, rfl, t, _, _, _, rfl, rfl, sq3, at_of (j := 2) rfl rfl, _, rfl, _, rfl, t, _, _, _, rfl, rfl, sq3, at_of (j := 0) rfl rfl, _, rfl, t, _, _, _, rfl, rfl, sq3, at_of (j := 1) rfl rfl, two, fun k2 hk2 => ?_⟩
        have s7 := s6.step (o := .tup [.int r.1, .int r.2.1]) hk2
        have dk2 : d ≠ k2 := ne_of_none hD3 hk2
        refine ⟨d, _, rfl, DPut.t (k := [Sum.inl r.1, Sum.inl r.2.1]) (kvs := (E.take i).map kvR) (by rw [upd_ne dk2]; exact hD3) upd_same (by rw [List.length_map, List.length_take]; exact small1000 (by omega)), ⟨_, _, rfl⟩, fun b o e => ?_, ?_⟩
        · rw [upd_ne (ne_of_none e hdn)]; exact s7 _ _ e
        · rw [upd_same, putK_new _ (by rw [valV_kvR, hno]; rfl), List.take_succ, hr']
          simp [kvR]
      · rintro σ H' ⟨⟨u, v, rfl⟩, sH, hD⟩
        rw [List.length_map, htl, List.take_length] at hD
        exact ⟨_, rfl, fin d H' sH hdn hD⟩
end
end Kx
namespace Kx
open PySem L2
def TieRow (H : Hp) (q : Addr) (n : Nat) (i : Int) (g : Int → Int → Int) : Prop := ∃ us : List Addr, H q = some (.tup (us.map V.ref)) ∧ us.length = n ∧ ∀ (j : Nat) (u : Addr), us[j]? = some u → H u = some (.tup [.int (g i j), .int (g j i)])
def Ties (H : Hp) (p : Addr) (n : Nat) (g : Int → Int → Int) : Prop := ∃ qs : List Addr, H p = some (.tup (qs.map V.ref)) ∧ qs.length = n ∧ ∀ (i : Nat) (q : Addr), qs[i]? = some q → TieRow H q n i g
theorem TieRow.same {H H' : Hp} (s : Same H H') {q : Addr} {n : Nat} {i : Int} {g : Int → Int → Int} (h : TieRow H q n i g) : TieRow H' q n i g := let ⟨us, h1, h2, h3⟩ := h; ⟨us, s _ _ h1, h2, fun j u hj => s _ _ (h3 j u hj)⟩
theorem Ties.same {H H' : Hp} (s : Same H H') {p : Addr} {n : Nat} {g : Int → Int → Int} (h : Ties H p n g) : Ties H' p n g := let ⟨qs, h1, h2, h3⟩ := h; ⟨qs, s _ _ h1, h2, fun i q hi => (h3 i q hi).same s⟩
theorem TieRow.upd {H : Hp} {D : Addr} {xs ys : List V} (hD : H D = some (.lst xs)) {q : Addr} {n : Nat} {i : Int} {g : Int → Int → Int} (h : TieRow H q n i g) : TieRow (upd H D (.lst ys)) q n i g := by
  obtain ⟨us, h1, h2, h3⟩ := h
  refine ⟨us, ?_, h2, fun j u hj => ?_⟩
  · rw [upd_ne (ne_of h1 hD (by intro z; cases z))]; exact h1
  · rw [upd_ne (ne_of (h3 j u hj) hD (by intro z; cases z))]; exact h3 j u hj
theorem getD_mk (E : List R3) (a b : Int) : ((lkR E a b).map V.int).getD (.int 0) = V.int (mkR E a b) := by
  unfold mkR
  cases lkR E a b <;> rfl
def sp_tiesof : Sp := fun vs H Q _ => ∃ (n : Nat) (d : Addr) (E : List R3), vs = [.int n, .ref d] ∧ H d = some (.dT (E.map kvR)) ∧ n ≤ 12 ∧
  ∀ (p : Addr) (H' : Hp), Same H H' → Ties H' p n (mkR E) → Q (.ref p) H'
section
variable {P : Program} {w : World} {K : PySem.W.Frag} {mg : Str → Option Value} {base : Heap}
theorem sc_tiesof : FnScope ["many", "marks", "corners", "a", "b"] ["many", "marks"] (defScope s_tiesof) := ⟨rfl, rfl, rfl, by decide +kernel, rfl, by decide +kernel, by decide +kernel⟩
theorem ok_tiesof {f : Addr} {fd : FuncData} (F : Fun K "ties_of" "ties_of" s_tiesof f fd) (T : Txt mg) : FnOk P w K mg base CX0 1 f fd ["many", "marks"] sp_tiesof := by
  refine F.ok sc_tiesof (fun vs H Q E h => ?_) (fun cdv A outer s H vs Q E0' hr h => ?_)
  · obtain ⟨n, d, E, rfl, _⟩ := h
    rfl
  · have nd := sc_tiesof.nd
    obtain ⟨n, d, E, rfl, hd, hn, fin⟩ := h
    refine ⟨_, (pss_cons (ps_set (i := 2) nd rfl (Or.inr rfl) (pe_callTy (cr_list_rng hr.hd) (by rfl) T.list (by decide +kernel) (pa_cons (pe_callTy cr_range1 (by rfl) T.range (by decide +kernel) (pa_cons (pv 0) pa_nil)) pa_nil)))
      (pss_one (ps_ret (pe_callTy (call_tupleK (K := K)) (by rfl) T.tuple (by decide +kernel) (pa_cons (pe_lc (own := [("a", 3)]) (g := gName 3) (by rfl) nd (pi_listK (K := K) (pv 2)) (blkOk_by (own := [("a", 3)]) (N := ["many", "marks", "corners", "a", "b"]) (sc := defScope s_tiesof) (by decide +kernel)) (fun _ _ _ _ _ => (pg_name (i := 3) nd rfl (Or.inr rfl))) (fun _ _ _ _ _ => pts_nil) (fun _ _ _ _ _ => (pe_callTy (call_tupleK (K := K)) (by rfl) T.tuple (by decide +kernel) (pa_cons (pe_lc (own := [("b", 4)]) (g := gName 4) (by rfl) nd (pi_listK (K := K) (pv 2)) (blkOk_by (own := [("b", 4)]) (N := ["many", "marks", "corners", "a", "b"]) (by kernel_rfl)) (fun _ _ _ _ _ => (pg_name (i := 4) nd rfl (Or.inl rfl))) (fun _ _ _ _ _ => pts_nil) (fun _ _ _ _ _ => (pe_tup (pa_cons (pe_dget2 (hu_of hr) (pv 1) (pe_tup (pa_cons (pv 3) (pa_cons (pv 4) pa_nil))) pe_int ⟨rfl, rfl, rfl, rfl⟩) (pa_cons (pe_dget2 (hu_of hr) (pv 1) (pe_tup (pa_cons (pv 4) (pa_cons (pv 3) pa_nil))) pe_int ⟨rfl, rfl, rfl, rfl⟩) pa_nil))))) pa_nil)))) pa_nil))))), ?_⟩
    have two : (2 : Nat) ≤ sizeLine := by decide
    refine ⟨_, rfl, n, rfl, fun p1 hp1 => ⟨p1, n, rfl, upd_same, by omega, by omega, fun p2 hp2 => ?_⟩⟩
    have s2 : Same H (upd (upd H p1 (.rng 0 n)) p2 (.lst ((Nm.upTo (n : Int).toNat).map V.int))) := (Same.new hp1).step hp2
    rw [Int.toNat_natCast]
    rw [Int.toNat_natCast] at s2
    refine ⟨_, rfl, p2, rfl, ⟨_, SqL.of upd_same⟩, fun D hD => ?_⟩
    have nD : ∀ b o, H b = some o → b ≠ D := fun b o e => ne_of_none (s2 b o e) hD
    have up : ∀ i : Nat, i < n → ((Nm.upTo n).map V.int)[i]? = some (.int (i : Int)) := fun i hi => by
      rw [Nm.upTo, List.map_map, List.getElem?_map, List.getElem?_range hi]; rfl
    have lup : ((Nm.upTo n).map V.int).length = n := by rw [List.length_map, Nm.upTo_length]
    have hP2 : upd (upd H p1 (.rng 0 n)) p2 (.lst ((Nm.upTo n).map V.int)) p2 = some (.lst ((Nm.upTo n).map V.int)) := upd_same
    refine lc_list (K := K) (a := p2) (xs := (Nm.upTo n).map V.int) (fun i H' => Same (upd (upd H p1 (.rng 0 n)) p2 (.lst ((Nm.upTo n).map V.int))) H' ∧ ∃ qs : List Addr, H' D = some (.lst (qs.map V.ref)) ∧ qs.length = i ∧ ∀ (k : Nat) (q : Addr), qs[k]? = some q → TieRow H' q n k (mkR E))
      ⟨Same.new hD, [], upd_same, rfl, fun k q hk => by simp at hk⟩ (fun i H' _ h => SqL.of (h.1 _ _ hP2)) ?_ ?_
    · rintro i x H' hx ⟨sH, qs, hDq, lq, rows⟩
      have hi : i < n := by have := (List.getElem?_eq_some_iff.mp hx).1; rw [lup] at this; exact this
      rw [up i hi] at hx
      cases hx
      refine ⟨rfl, _, rfl, p2, rfl, ⟨_, SqL.of (sH _ _ hP2)⟩, fun D2 hD2 => ?_⟩
      have d12 : D ≠ D2 := ne_of_none hDq hD2
      have nD2 : ∀ b o, H' b = some o → b ≠ D2 := fun b o e => ne_of_none e hD2
      refine lc_list (K := K) (a := p2) (xs := (Nm.upTo n).map V.int) (fun j H2 => Same H' H2 ∧ ∃ us : List Addr, H2 D2 = some (.lst (us.map V.ref)) ∧ us.length = j ∧ ∀ (k : Nat) (u : Addr), us[k]? = some u → H2 u = some (.tup [.int (mkR E i k), .int (mkR E k i)]))
        ⟨Same.new hD2, [], upd_same, rfl, fun k q hk => by simp at hk⟩ (fun j H2 _ h => SqL.of (h.1 _ _ (sH _ _ hP2))) ?_ ?_
      · rintro j x H2 hx ⟨sH2, us, hUs, lu, ents⟩
        have hj : j < n := by have := (List.getElem?_eq_some_iff.mp hx).1; rw [lup] at this; exact this
        rw [up j hj] at hx
        cases hx
        have hd2 : H2 d = some (.dT (E.map kvR)) := sH2 _ _ (sH _ _ (s2 _ _ hd))
        refine ⟨rfl, _, rfl, d, rfl, .inr ⟨_, .inl hd2⟩, _, rfl, _, rfl, two, fun k1 hk1 => ?_⟩
        have s3 := Same.new (o := .tup [.int (i : Int), .int (j : Int)]) hk1
        refine ⟨_, DGet.t (k := [Sum.inl (i : Int), Sum.inl (j : Int)]) (s3 _ _ hd2) upd_same, ?_⟩
        rw [valV_kvR, getD_mk]
        refine ⟨_, rfl, d, rfl, .inr ⟨_, .inl (s3 _ _ hd2)⟩, _, rfl, _, rfl, two, fun k2 hk2 => ?_⟩
        have s4 := s3.step (o := .tup [.int (j : Int), .int (i : Int)]) hk2
        refine ⟨_, DGet.t (k := [Sum.inl (j : Int), Sum.inl (i : Int)]) (s4 _ _ hd2) upd_same, ?_⟩
        rw [valV_kvR, getD_mk]
        refine ⟨two, fun e he => ?_⟩
        have s5 := s4.step (o := .tup [.int (mkR E i j), .int (mkR E j i)]) he
        have eD2 : e ≠ D2 := (ne_of_none (s4 _ _ hUs) he).symm
        refine ⟨_, s5 _ _ hUs, by rw [List.length_map, lu]; exact small1000 (by omega), fun b o q => ?_, us ++ [e], ?_, by simp [lu], fun k u hk => ?_⟩
        · rw [upd_ne (nD2 b o q)]; exact s5 _ _ (sH2 _ _ q)
        · rw [upd_same, List.map_append]; rfl
        · by_cases hkj : k < us.length
          · rw [List.getElem?_append_left hkj] at hk
            have := ents k u hk
            rw [upd_ne (ne_of this hUs (by intro z; cases z))]
            exact s5 _ _ this
          · have hke : k = us.length := by
              have := (List.getElem?_eq_some_iff.mp hk).1
              rw [List.length_append, List.length_singleton] at this
              omega
            subst hke
            rw [List.getElem?_append_right (Nat.le_refl _), Nat.sub_self] at hk
            cases hk
            rw [upd_ne eD2, upd_same, lu]
      · rintro H2 ⟨sH2, us, hUs, lu, ents⟩
        rw [lup] at lu
        refine ⟨D2, _, rfl, .inl ⟨SqL.of hUs, fun l hl => ?_⟩⟩
        have s3 := sH2.step (o := .tup (us.map V.ref)) hl
        refine ⟨_, s3 _ _ hDq, by rw [List.length_map, lq]; exact small1000 (by omega), fun b o q => ?_, qs ++ [l], ?_, by simp [lq], fun k q hk => ?_⟩
        · rw [upd_ne (ne_of_none q hD)]; exact s3 _ _ (sH _ _ q)
        · rw [upd_same, List.map_append]; rfl
        · have hDl : upd H2 l (.tup (us.map V.ref)) D = some (.lst (qs.map V.ref)) := s3 _ _ hDq
          refine TieRow.upd hDl ?_
          by_cases hkj : k < qs.length
          · rw [List.getElem?_append_left hkj] at hk
            exact (rows k q hk).same s3
          · have hke : k = qs.length := by
              have := (List.getElem?_eq_some_iff.mp hk).1
              rw [List.length_append, List.length_singleton] at this
              omega
            subst hke
            rw [List.getElem?_append_right (Nat.le_refl _), Nat.sub_self] at hk
            cases hk
            refine ⟨us, upd_same, lu, fun j u hj => ?_⟩
            rw [lq]
            exact Same.new hl _ _ (ents j u hj)
    · rintro H' ⟨sH, qs, hDq, lq, rows⟩
      rw [lup] at lq
      refine ⟨D, _, rfl, .inl ⟨SqL.of hDq, fun l hl => ?_⟩⟩
      exact fin l _ ((s2.trans sH).step hl) ⟨qs, upd_same, lq, fun i q hi => (rows i q hi).same (Same.new hl)⟩
end
end Kx
namespace Kx
open PySem L2
structure WebC (K : PySem.W.Frag) (mg : Str → Option Value) (c : Addr) : Prop where
  cls : Cls K c
  nC : NoAttr K c "colours"
  nA : NoAttr K c "arrows"
  nT : NoAttr K c "ties"
  ne : PySem.W.findIn K (.ref c) "__ne__" = some (some (.builtin "object.__ne__"))
  ob : PySem.W.mroIn K c (.type "object") = some true
  cl : PySem.W.findIn K (.ref c) "__class__" = some (some (.builtin "object.__class__"))
  gt : PySem.W.specialIn K (.builtin "object.__class__") "__get__" = some (some (.builtin "getset_descriptor.__get__"))
  tk : PySem.W.takesIn K (.builtin "object.__class__") = some true
  self : PySem.W.kitOne K (.ref c) (.ref c) = some true
  kd : ∀ k : Kd, PySem.W.kitOne K (.type k.name) (.ref c) = some false
  Web : mg "Web" = some (.ref c)
abbrev RowT (H : Hp) (t : Addr) (r : R3) : Prop := H t = some (.tup ((tlR r).map V.int))
abbrev wfs (p1 p2 p3 : Addr) : List (Str × V) := [("colours", .ref p1), ("arrows", .ref p2), ("ties", .ref p3)]
def WebAt (c : Addr) (H : Hp) (a : Addr) (cols : List Int) (E : List R3) : Prop := ∃ (dx p1 p2 p3 : Addr) (ts : List Addr), H a = some (.ins c dx (wfs p1 p2 p3)) ∧ TI H p1 cols ∧ H p2 = some (.tup (ts.map V.ref)) ∧ Paired (RowT H) ts E ∧ Ties H p3 cols.length (mkR E)
theorem WebAt.same {H H' : Hp} (s : Same H H') {c a : Addr} {cols : List Int} {E : List R3} (h : WebAt c H a cols E) : WebAt c H' a cols E :=
  let ⟨dx, p1, p2, p3, ts, h1, h2, h3, h4, h5⟩ := h
  ⟨dx, p1, p2, p3, ts, s _ _ h1, s _ _ h2, s _ _ h3, Paired.mapP h4 fun _ _ z => s _ _ z, h5.same s⟩
def rowOf (H : Hp) (t : Addr) : R3 := match H t with
  | some (.tup [.int a, .int b, .int m]) => (a, b, m)
  | _ => (0, 0, 0)
theorem rowOf_of {H : Hp} {t : Addr} {r : R3} (h : RowT H t r) : rowOf H t = r := by
  unfold rowOf
  rw [show H t = some (.tup [.int r.1, .int r.2.1, .int r.2.2]) from h]
theorem map_rowOf {H : Hp} : ∀ {ts : List Addr} {E : List R3}, Paired (RowT H) ts E → ts.map (rowOf H) = E
  | _, _, .nil => rfl
  | _, _, .cons h t => by rw [List.map_cons, rowOf_of h, map_rowOf t]
theorem paired_mem {α β : Type} {F : α → β → Prop} : ∀ {l : List α} {m : List β}, Paired F l m → ∀ a ∈ l, ∃ b ∈ m, F a b
  | _, _, .nil, a, h => nomatch h
  | _, _, .cons h t, a, hm => by
    rcases List.mem_cons.mp hm with e | e
    · subst e; exact ⟨_, List.mem_cons_self, h⟩
    · obtain ⟨b, h1, h2⟩ := paired_mem t a e; exact ⟨b, List.mem_cons_of_mem _ h1, h2⟩
theorem paired_rows {H : Hp} : ∀ {qs : List Addr}, (∀ q ∈ qs, RowT H q (rowOf H q)) → Paired (RowT H) qs (qs.map (rowOf H))
  | [], _ => .nil
  | q :: qs, h => .cons (h q List.mem_cons_self) (paired_rows fun x hx => h x (List.mem_cons_of_mem _ hx))
theorem ne_ins {H : Hp} {b x c dx : Addr} {o : HO} {fs : List (Str × V)} (hx : H x = some (.ins c dx fs)) (h : H b = some o) (n : ∀ q r s, o ≠ .ins q r s) : b ≠ x := fun z => by
  subst z; rw [hx] at h; cases h; exact n _ _ _ rfl
theorem ArrS.keepI {K : PySem.W.Frag} {H H' : Hp} {x c dx : Addr} {fs : List (Str × V)} (hx : H x = some (.ins c dx fs)) (k : Keep [x] H H') {a : Addr} {ts : List Addr} {E : List R3} (h : ArrS K H a ts E) : ArrS K H' a ts E := by
  have go : ∀ b o, H b = some o → (∀ q r s, o ≠ .ins q r s) → H' b = some o := fun b o e n => k b o e (by simp [ne_ins hx e n])
  refine ⟨?_, Paired.mapP h.2 fun t r z => z.imp (fun e => go _ _ e (by intro _ _ _ q; cases q)) (fun e => go _ _ e (by intro _ _ _ q; cases q))⟩
  rcases h.1 with ((e | ⟨o, e⟩) | e) | ((e | ⟨o, e⟩) | e)
  · exact .inl (.inl (.inl (go _ _ e (by intro _ _ _ q; cases q))))
  · exact .inl (.inl (.inr ⟨o, go _ _ e (by intro _ _ _ q; cases q)⟩))
  · exact .inl (.inr e)
  · exact .inr (.inl (.inl (go _ _ e (by intro _ _ _ q; cases q))))
  · exact .inr (.inl (.inr ⟨o, go _ _ e (by intro _ _ _ q; cases q)⟩))
  · exact .inr (.inr e)
theorem wput (v1 v2 v3 : Addr) : putF "ties" (.ref v3) (putF "arrows" (.ref v2) (putF "colours" (.ref v1) [])) = wfs v1 v2 v3 := by rfl
theorem mkR_perm {E E' : List R3} (p : E'.Perm E) (nd : (E.map prR).Nodup) : mkR E' = mkR E := by
  funext a b
  unfold mkR
  rw [lkR_perm p ((p.map prR).nodup_iff.mpr nd)]
def sp_Winit (K : PySem.W.Frag) (c : Addr) : Sp := fun vs H Q _ => ∃ (x dx pc pa : Addr) (cols : List Int) (ts : List Addr) (E : List R3), vs = [.ref x, .ref pc, .ref pa] ∧ H x = some (.ins c dx []) ∧
  (H pc = some (.lst (cols.map V.int)) ∨ H pc = some (.tup (cols.map V.int))) ∧ ArrS K H pa ts E ∧ WOk cols E ∧
  ∀ (E' : List R3) (H' : Hp), E'.Perm E → SrtR E' → Keep [x] H H' → WebAt c H' x cols E' → Q .non H'
section
variable {P : Program} {w : World} {K : PySem.W.Frag} {mg : Str → Option Value} {base : Heap} {c : Addr}
theorem sc_Winit : FnScope ["self", "colours", "arrows", "marks", "row"] ["self", "colours", "arrows"] (defScope s_Winit) := ⟨rfl, rfl, rfl, by decide +kernel, rfl, by decide +kernel, by decide +kernel⟩
end
end Kx
namespace Kx
open PySem L2
structure FunD (K : PySem.W.Frag) (x qual : Str) (st : Stmt) (dV : Value) (f : Addr) (fd : FuncData) : Prop where
  ex : ∃ (oc : Value) (od : Option Addr) (kV doc pm : Value) (an : Option Addr) (cdv ct : Value) (osl : Array (Option Value)),
    fd = PySem.W.fnOf x qual (defArgs st) (defBody st) (defScope st) dV kV doc pm an cdv ct ∧ K.lookup f = some ⟨oc, od, .func fd, osl⟩ ∧ PySem.W.codeIn K cdv qual = true
section
variable {P : Program} {w : World} {K : PySem.W.Frag} {mg : Str → Option Value} {base : Heap} {c : Addr}
theorem FunD.ok {x qual : Str} {st : Stmt} {dV : Value} {f : Addr} {fd : FuncData} {N ps : List Str} {k : Nat} {sp : Sp} (F : FunD K x qual st dV f fd) (S : FnScope N ps (defScope st)) (len : ∀ vs H Q E, sp vs H Q E → vs.length = ps.length)
    (hbody : ∀ (cdv : Value) (A : Around) (outer : List Env) (s : Shared) (H : Hp) (vs : List V) (Q : VK) (E : XK), Room k (A.deeper (PyProof.Rows.envOfC qual (defScope st) s.heap.objs.size f cdv)) → sp vs H Q E →
      ∃ t, PSs (cxOf CX0 P w K mg base N qual (defScope st) f cdv A outer s H E).nox (defBody st) t ∧ t { nx := fun _ H' => Q .non H', rt := Q } (start N vs) H) : FnOk P w K mg base CX0 (k + 1) f fd ps sp := by
  obtain ⟨oc, od, kV, doc, pm, an, cdv, ct, osl, rfl, lk, hcd⟩ := F.ex
  refine fn_of lk hcd S len fun A outer s H vs Q E hr hsp => ?_
  obtain ⟨t, h, q⟩ := hbody cdv A outer s H vs Q E hr hsp
  exact ⟨t, h.nox, q⟩
theorem binds3 {T a0 : Addr} {cT kV doc pm cdv ct : Value} {an oT : Option Addr} {nT : Nat} {slT : Array (Option Value)} (hT : K.lookup T = some ⟨cT, oT, .seq #[.ref a0] nT, slT⟩) :
    Binds K (PySem.W.fnOf "__init__" "Web.__init__" (defArgs s_Winit) (defBody s_Winit) (defScope s_Winit) (.ref T) kV doc pm an cdv ct) ["self", "colours", "arrows"] [] := fun s us KI hl => by
  have h3 : us.length = 3 := by simpa using hl
  match us, h3 with
  | [x, y, z], _ => exact .of_defaults rfl (KI _ _ hT) rfl rfl rfl
theorem ok_WinitD {f : Addr} {fd : FuncData} {dV : Value} (F : FunD K "__init__" "Web.__init__" s_Winit dV f fd) (T : Txt mg) (W : WebC K mg c) (F_marksof : Fn P w K mg base "marks_of" 5 ["colours", "arrows"] (sp_marksof K)) (F_tiesof : Fn P w K mg base "ties_of" 1 ["many", "marks"] sp_tiesof) : FnOk P w K mg base CX0 6 f fd ["self", "colours", "arrows"] (sp_Winit K c) := by
  refine F.ok sc_Winit (fun vs H Q E h => ?_) (fun cdv A outer s H vs Q E0' hr h => ?_)
  · obtain ⟨x, dx, pc, pa, cols, ts, E, rfl, _⟩ := h
    rfl
  · have nd := sc_Winit.nd
    obtain ⟨x, dx, pc, pa, cols, ts, E, rfl, hx, hpc, harr, ok, fin⟩ := h
    refine ⟨_, (pss_cons (ps_set (i := 3) nd rfl (Or.inl rfl) (pe_fn F_marksof hr (pa_cons (pv 1) (pa_cons (pv 2) pa_nil))))
      (pss_cons (ps_fldK (K := K) (pv 0) (pe_callTy call_tupE (by rfl) T.tuple (by decide +kernel) (pa_cons (pv 1) pa_nil)))
      (pss_cons (ps_fldK (K := K) (pv 0) (pe_callTy (call_tupleK (K := K)) (by rfl) T.tuple (by decide +kernel) (pa_cons (pe_callB (cr_sortedTK (K := K)) (by rfl) T.sorted (by decide +kernel) (pa_cons (pe_lc (own := [("row", 4)]) (g := gName 4) (by rfl) nd (pi_seqK (K := K) (pv 2)) (blkOk_by (own := [("row", 4)]) (N := ["self", "colours", "arrows", "marks", "row"]) (sc := defScope s_Winit) (by decide +kernel)) (fun _ _ _ _ _ => (pg_name (i := 4) nd rfl (Or.inl rfl))) (fun _ _ _ _ _ => pts_nil) (fun _ _ _ _ _ => (pe_callTy call_tupE (by rfl) T.tuple (by decide +kernel) (pa_cons (pv 4) pa_nil)))) pa_nil)) pa_nil)))
      (pss_one (ps_fldK (K := K) (pv 0) (pe_fn F_tiesof hr (pa_cons (pe_callB (call_lenK (K := K)) (by rfl) T.len (by decide +kernel) (pa_cons (pe_fldK (K := K) (pv 0)) pa_nil)) (pa_cons (pv 3) pa_nil)))))))), ?_⟩
    have few := ok.few
    have htl : ts.length = E.length := Paired.length harr.2
    refine ⟨_, rfl, _, rfl, pc, pa, cols, ts, E, rfl, hpc, harr, ok, fun d H1 s1 hdn hd => ?_⟩
    refine ⟨_, rfl, pc, _, rfl, hpc.imp (s1 _ _) (s1 _ _), fun p1 H2 s2 h1 => ?_⟩
    have s12 := s1.trans s2
    have hx2 := s12 _ _ hx
    refine ⟨_, rfl, x, c, dx, [], rfl, hx2, W.cls, W.nC, by decide, ?_⟩
    -- x has its colours
    have k3 : Keep [x] H2 (upd H2 x (.ins c dx (putF "colours" (.ref p1) []))) := (Keep.refl _ _).set (by simp)
    have harr3 := (harr.same s12).keepI hx2 k3
    have hx3 : upd H2 x (.ins c dx (putF "colours" (.ref p1) [])) x = some (.ins c dx (putF "colours" (.ref p1) [])) := upd_same
    have p1x : p1 ≠ x := ne_ins hx2 h1 (by intro _ _ _ q; cases q)
    have hd2 := s2 _ _ hd
    have dnx : d ≠ x := ne_ins hx2 hd2 (by intro _ _ _ q; cases q)
    have h13 := k3 _ _ h1 (by simp [p1x])
    have hd3 := k3 _ _ hd2 (by simp [dnx])
    generalize upd H2 x (.ins c dx (putF "colours" (.ref p1) [])) = H3 at k3 harr3 hx3 h13 hd3
    rcases harr3.1 with hL | hT
    · refine ⟨_, rfl, pa, rfl, .inl ⟨⟨_, hL⟩, fun D hDn => ?_⟩⟩
      refine lc_list (K := K) (a := pa) (xs := ts.map V.ref) (fun i H' => Same H3 H' ∧ ∃ us : List Addr, H' D = some (.lst (us.map V.ref)) ∧ Paired (RowT H') us (E.take i)) ⟨Same.new hDn, [], upd_same, .nil⟩ (fun i H' _ h => h.1.seq hL) ?_ ?_
      · rintro i y H' hy ⟨sH, us, hD', hus⟩
        rw [List.getElem?_map] at hy
        obtain ⟨t, ht, rfl⟩ := Option.map_eq_some_iff.mp hy
        obtain ⟨r, hr', hrow⟩ := paired_get harr3.2 ht
        have hi := (List.getElem?_eq_some_iff.mp hr').1
        have lus : us.length = i := by rw [Paired.length hus, List.length_take]; omega
        refine ⟨rfl, _, rfl, t, _, rfl, hrow.same sH, fun l H4 s4 hl => ⟨_, s4 _ _ hD', by rw [List.length_map, lus]; exact small1000 (by omega), fun b o e => ?_, us ++ [l], ?_, ?_⟩⟩
        · rw [upd_ne (ne_of_none e hDn)]; exact s4 _ _ (sH _ _ e)
        · rw [upd_same, List.map_append]; rfl
        · have e1 : E.take (i + 1) = E.take i ++ [r] := by rw [List.take_succ, hr']; rfl
          rw [e1]
          have up : ∀ t r, RowT H4 t r → RowT (upd H4 D (.lst (us.map V.ref ++ [.ref l]))) t r := fun t r z => by
            show upd H4 D _ t = _
            rw [upd_ne (ne_of z (s4 _ _ hD') (by intro q; cases q))]; exact z
          exact Paired.snoc (Paired.mapP hus fun t r z => up t r (s4 _ _ z)) (up l r hl)
      · rintro H' ⟨sH, us, hD', hus⟩
        rw [List.length_map, htl, List.take_length] at hus
        have fact : ∀ t ∈ us, RowT H' t (rowOf H' t) := fun t ht => by
          obtain ⟨r, _, h⟩ := paired_mem hus t ht
          rw [rowOf_of h]; exact h
        refine ⟨D, us, fun t => tlR (rowOf H' t), rfl, SqL.of hD', fun t ht => ⟨fact t ht, by simp [tlR]⟩, fun qs p4 hperm hpw hp4 => ?_⟩
        refine ⟨p4, _, rfl, .inl ⟨SqL.of upd_same, fun p2 hp2 => ?_⟩⟩
        have s5 : Same H' (upd (upd H' p4 (.lst (qs.map V.ref))) p2 (.tup (qs.map V.ref))) := (Same.new hp4).step hp2
        have hp2' : upd (upd H' p4 (.lst (qs.map V.ref))) p2 (.tup (qs.map V.ref)) p2 = some (.tup (qs.map V.ref)) := upd_same
        generalize upd (upd H' p4 (.lst (qs.map V.ref))) p2 (.tup (qs.map V.ref)) = H5 at s5 hp2'
        have s35 := sH.trans s5
        have hx5 := s35 _ _ hx3
        refine ⟨_, rfl, x, c, dx, _, rfl, hx5, W.cls, W.nA, by show 1 < 1000; decide, ?_⟩
        have k6 : Keep [x] H5 (upd H5 x (.ins c dx (putF "arrows" (.ref p2) (putF "colours" (.ref p1) [])))) := (Keep.refl _ _).set (by simp)
        have hx6 : upd H5 x (.ins c dx (putF "arrows" (.ref p2) (putF "colours" (.ref p1) []))) x = some (.ins c dx (putF "arrows" (.ref p2) (putF "colours" (.ref p1) []))) := upd_same
        generalize upd H5 x (.ins c dx (putF "arrows" (.ref p2) (putF "colours" (.ref p1) []))) = H6 at k6 hx6
        have h16 := k6 _ _ (s35 _ _ h13) (by simp [p1x])
        have hd6 := k6 _ _ (s35 _ _ hd3) (by simp [dnx])
        refine ⟨_, rfl, x, c, dx, _, _, rfl, hx6, W.cls, W.nC, rfl, p1, _, rfl, .inr (SqT.of h16), _, rfl, (cols.map V.int).length, d, E, rfl, hd6, by rw [List.length_map]; exact ok.len, fun p3 H7 s7 hties => ?_⟩
        have hx7 := s7 _ _ hx6
        refine ⟨_, rfl, x, c, dx, _, rfl, hx7, W.cls, W.nT, by show 2 < 1000; decide, ?_⟩
        have k8 : Keep [x] H7 (upd H7 x (.ins c dx (putF "ties" (.ref p3) (putF "arrows" (.ref p2) (putF "colours" (.ref p1) []))))) := (Keep.refl _ _).set (by simp)
        have k58 : Keep [x] H5 (upd H7 x (.ins c dx (putF "ties" (.ref p3) (putF "arrows" (.ref p2) (putF "colours" (.ref p1) []))))) := k6.trans (s7.keep.trans k8)
        have k38 := s35.keep.trans k58
        have k28 := k3.trans k38
        have tup8 : ∀ {b : Addr} {xs : List V}, H7 b = some (.tup xs) → upd H7 x (.ins c dx (putF "ties" (.ref p3) (putF "arrows" (.ref p2) (putF "colours" (.ref p1) [])))) b = some (.tup xs) := fun h => k8 _ _ h (by simp [ne_ins hx7 h (by intro _ _ _ q; cases q)])
        have tup5 : ∀ {b : Addr} {xs : List V}, H5 b = some (.tup xs) → upd H7 x (.ins c dx (putF "ties" (.ref p3) (putF "arrows" (.ref p2) (putF "colours" (.ref p1) [])))) b = some (.tup xs) := fun h => k58 _ _ h (by simp [ne_ins hx5 h (by intro _ _ _ q; cases q)])
        have eE : us.map (rowOf H') = E := map_rowOf hus
        have pE : (qs.map (rowOf H')).Perm E := by rw [← eE]; exact hperm.map _
        refine fin (qs.map (rowOf H')) _ pE ?_ (s12.keep.trans k28) ⟨dx, p1, p2, p3, qs, ?_, k28 _ _ h1 (by simp [p1x]), tup5 hp2', ?_, ?_⟩
        · unfold SrtR
          rw [List.pairwise_map]
          exact hpw
        · rw [upd_same, wput]
        · exact Paired.mapP (paired_rows fun q hq => fact q (hperm.mem_iff.mp hq)) fun t r z => tup5 (s5 _ _ z)
        · rw [mkR_perm pE ok.nd]
          rw [List.length_map] at hties
          obtain ⟨q3, g1, g2, g3⟩ := hties
          exact ⟨q3, tup8 g1, g2, fun i q hi => let ⟨vs, e1, e2, e3⟩ := g3 i q hi; ⟨vs, tup8 e1, e2, fun j u hj => tup8 (e3 j u hj)⟩⟩
    · refine ⟨_, rfl, pa, rfl, .inr ⟨⟨_, hT⟩, fun D hDn => ?_⟩⟩
      refine lc_tup (K := K) (a := pa) (xs := ts.map V.ref) (fun i H' => Same H3 H' ∧ ∃ us : List Addr, H' D = some (.lst (us.map V.ref)) ∧ Paired (RowT H') us (E.take i)) ⟨Same.new hDn, [], upd_same, .nil⟩ (fun i H' _ h => h.1.seqT hT) ?_ ?_
      · rintro i y H' hy ⟨sH, us, hD', hus⟩
        rw [List.getElem?_map] at hy
        obtain ⟨t, ht, rfl⟩ := Option.map_eq_some_iff.mp hy
        obtain ⟨r, hr', hrow⟩ := paired_get harr3.2 ht
        have hi := (List.getElem?_eq_some_iff.mp hr').1
        have lus : us.length = i := by rw [Paired.length hus, List.length_take]; omega
        refine ⟨rfl, _, rfl, t, _, rfl, hrow.same sH, fun l H4 s4 hl => ⟨_, s4 _ _ hD', by rw [List.length_map, lus]; exact small1000 (by omega), fun b o e => ?_, us ++ [l], ?_, ?_⟩⟩
        · rw [upd_ne (ne_of_none e hDn)]; exact s4 _ _ (sH _ _ e)
        · rw [upd_same, List.map_append]; rfl
        · have e1 : E.take (i + 1) = E.take i ++ [r] := by rw [List.take_succ, hr']; rfl
          rw [e1]
          have up : ∀ t r, RowT H4 t r → RowT (upd H4 D (.lst (us.map V.ref ++ [.ref l]))) t r := fun t r z => by
            show upd H4 D _ t = _
            rw [upd_ne (ne_of z (s4 _ _ hD') (by intro q; cases q))]; exact z
          exact Paired.snoc (Paired.mapP hus fun t r z => up t r (s4 _ _ z)) (up l r hl)
      · rintro H' ⟨sH, us, hD', hus⟩
        rw [List.length_map, htl, List.take_length] at hus
        have fact : ∀ t ∈ us, RowT H' t (rowOf H' t) := fun t ht => by
          obtain ⟨r, _, h⟩ := paired_mem hus t ht
          rw [rowOf_of h]; exact h
        refine ⟨D, us, fun t => tlR (rowOf H' t), rfl, SqL.of hD', fun t ht => ⟨fact t ht, by simp [tlR]⟩, fun qs p4 hperm hpw hp4 => ?_⟩
        refine ⟨p4, _, rfl, .inl ⟨SqL.of upd_same, fun p2 hp2 => ?_⟩⟩
        have s5 : Same H' (upd (upd H' p4 (.lst (qs.map V.ref))) p2 (.tup (qs.map V.ref))) := (Same.new hp4).step hp2
        have hp2' : upd (upd H' p4 (.lst (qs.map V.ref))) p2 (.tup (qs.map V.ref)) p2 = some (.tup (qs.map V.ref)) := upd_same
        generalize upd (upd H' p4 (.lst (qs.map V.ref))) p2 (.tup (qs.map V.ref)) = H5 at s5 hp2'
        have s35 := sH.trans s5
        have hx5 := s35 _ _ hx3
        refine ⟨_, rfl, x, c, dx, _, rfl, hx5, W.cls, W.nA, by show 1 < 1000; decide, ?_⟩
        have k6 : Keep [x] H5 (upd H5 x (.ins c dx (putF "arrows" (.ref p2) (putF "colours" (.ref p1) [])))) := (Keep.refl _ _).set (by simp)
        have hx6 : upd H5 x (.ins c dx (putF "arrows" (.ref p2) (putF "colours" (.ref p1) []))) x = some (.ins c dx (putF "arrows" (.ref p2) (putF "colours" (.ref p1) []))) := upd_same
        generalize upd H5 x (.ins c dx (putF "arrows" (.ref p2) (putF "colours" (.ref p1) []))) = H6 at k6 hx6
        have h16 := k6 _ _ (s35 _ _ h13) (by simp [p1x])
        have hd6 := k6 _ _ (s35 _ _ hd3) (by simp [dnx])
        refine ⟨_, rfl, x, c, dx, _, _, rfl, hx6, W.cls, W.nC, rfl, p1, _, rfl, .inr (SqT.of h16), _, rfl, (cols.map V.int).length, d, E, rfl, hd6, by rw [List.length_map]; exact ok.len, fun p3 H7 s7 hties => ?_⟩
        have hx7 := s7 _ _ hx6
        refine ⟨_, rfl, x, c, dx, _, rfl, hx7, W.cls, W.nT, by show 2 < 1000; decide, ?_⟩
        have k8 : Keep [x] H7 (upd H7 x (.ins c dx (putF "ties" (.ref p3) (putF "arrows" (.ref p2) (putF "colours" (.ref p1) []))))) := (Keep.refl _ _).set (by simp)
        have k58 : Keep [x] H5 (upd H7 x (.ins c dx (putF "ties" (.ref p3) (putF "arrows" (.ref p2) (putF "colours" (.ref p1) []))))) := k6.trans (s7.keep.trans k8)
        have k38 := s35.keep.trans k58
        have k28 := k3.trans k38
        have tup8 : ∀ {b : Addr} {xs : List V}, H7 b = some (.tup xs) → upd H7 x (.ins c dx (putF "ties" (.ref p3) (putF "arrows" (.ref p2) (putF "colours" (.ref p1) [])))) b = some (.tup xs) := fun h => k8 _ _ h (by simp [ne_ins hx7 h (by intro _ _ _ q; cases q)])
        have tup5 : ∀ {b : Addr} {xs : List V}, H5 b = some (.tup xs) → upd H7 x (.ins c dx (putF "ties" (.ref p3) (putF "arrows" (.ref p2) (putF "colours" (.ref p1) [])))) b = some (.tup xs) := fun h => k58 _ _ h (by simp [ne_ins hx5 h (by intro _ _ _ q; cases q)])
        have eE : us.map (rowOf H') = E := map_rowOf hus
        have pE : (qs.map (rowOf H')).Perm E := by rw [← eE]; exact hperm.map _
        refine fin (qs.map (rowOf H')) _ pE ?_ (s12.keep.trans k28) ⟨dx, p1, p2, p3, qs, ?_, k28 _ _ h1 (by simp [p1x]), tup5 hp2', ?_, ?_⟩
        · unfold SrtR
          rw [List.pairwise_map]
          exact hpw
        · rw [upd_same, wput]
        · exact Paired.mapP (paired_rows fun q hq => fact q (hperm.mem_iff.mp hq)) fun t r z => tup5 (s5 _ _ z)
        · rw [mkR_perm pE ok.nd]
          rw [List.length_map] at hties
          obtain ⟨q3, g1, g2, g3⟩ := hties
          exact ⟨q3, tup8 g1, g2, fun i q hi => let ⟨vs, e1, e2, e3⟩ := g3 i q hi; ⟨vs, tup8 e1, e2, fun j u hj => tup8 (e3 j u hj)⟩⟩
end
end Kx
namespace Kx
open PySem L2
theorem sameMade {H5 H6 : Hp} {x dx c : Addr} (hx : H5 x = none) (hdx : H5 dx = none) (k : Keep [x] (upd (upd H5 dx (.own x)) x (.ins c dx [])) H6) : Same H5 H6 := fun b o e => by
  have nx : b ≠ x := ne_of_none e hx
  have ndx : b ≠ dx := ne_of_none e hdx
  exact k b o (by rw [upd_ne nx, upd_ne ndx]; exact e) (by simp [nx])
theorem sameNew2 {H5 : Hp} {x dx c : Addr} (hx : H5 x = none) (hdx : H5 dx = none) : Same H5 (upd (upd H5 dx (.own x)) x (.ins c dx [])) := fun b o e => by
  rw [upd_ne (ne_of_none e hx), upd_ne (ne_of_none e hdx)]; exact e
theorem WOk.perm {cols : List Int} {E E' : List R3} (p : E'.Perm E) (h : WOk cols E) : WOk cols E' := ⟨h.len, h.col, fun r hr => h.row r (p.mem_iff.mp hr), (p.map prR).nodup_iff.mpr h.nd⟩
theorem Grid.getZ {H : Hp} {p : Addr} {rs : List Addr} {n : Nat} {G : Nat → Nat → V} (g : Grid H p rs n G) {a : Nat} (h : a < n) : ∃ r, rs[a]? = some r ∧ r ∈ rs ∧ atI (rs.map V.ref) (0 + (a : Int)) = some (.ref r) ∧ H r = some (.lst (rowV n (G a))) := by
  rw [Int.zero_add]
  exact g.get h
theorem rowV_atZ {n : Nat} {g : Nat → V} {i : Nat} (h : i < n) : atI (rowV n g) (0 + (i : Int)) = some (g i) := by
  rw [Int.zero_add]
  exact rowV_at h
def rowM (M : Nat → Nat → Int) (a b : Nat) : R3 := (0 + (a : Int), 0 + (b : Int), M a b)
def colE (n : Nat) (M : Nat → Nat → Int) (b j : Nat) : List R3 := ((List.range j).filter fun a => decide (0 < M a b)).map fun a => rowM M a b
def allE (n : Nat) (M : Nat → Nat → Int) (i : Nat) : List R3 := (List.range i).flatMap fun b => colE n M b n
theorem allE_succ {n : Nat} {M : Nat → Nat → Int} {i : Nat} : allE n M (i + 1) = allE n M i ++ colE n M i n := by
  unfold allE
  rw [List.range_succ, List.flatMap_append]
  simp
theorem mem_allE {n : Nat} {M : Nat → Nat → Int} {r : R3} : r ∈ allE n M n ↔ ∃ a b : Nat, a < n ∧ b < n ∧ 0 < M a b ∧ r = rowM M a b := by
  unfold allE colE
  rw [List.mem_flatMap]
  constructor
  · rintro ⟨b, hb, hr⟩
    obtain ⟨a, ha, rfl⟩ := List.mem_map.mp hr
    have := List.mem_filter.mp ha
    exact ⟨a, b, List.mem_range.mp this.1, List.mem_range.mp hb, of_decide_eq_true this.2, rfl⟩
  · rintro ⟨a, b, ha, hb, h, rfl⟩
    exact ⟨b, List.mem_range.mpr hb, List.mem_map.mpr ⟨a, List.mem_filter.mpr ⟨List.mem_range.mpr ha, decide_eq_true h⟩, rfl⟩⟩
theorem nodup_allE {n : Nat} {M : Nat → Nat → Int} : ∀ i, ((allE n M i).map prR).Nodup
  | 0 => by simp [allE]
  | i + 1 => by
    rw [allE_succ, List.map_append, List.nodup_append]
    refine ⟨nodup_allE i, ?_, fun x hx y hy e => ?_⟩
    · unfold colE
      rw [List.map_map, List.nodup_iff_pairwise_ne, List.pairwise_map]
      refine (List.nodup_iff_pairwise_ne.mp (List.nodup_range.sublist List.filter_sublist)).imp fun {a b} ne e => ne ?_
      have := congrArg Prod.fst e
      have : (0 : Int) + a = 0 + b := this
      omega
    · obtain ⟨r, hr, rfl⟩ := List.mem_map.mp hx
      obtain ⟨r', hr', rfl⟩ := List.mem_map.mp hy
      unfold allE at hr
      obtain ⟨b, hb, hr⟩ := List.mem_flatMap.mp hr
      unfold colE at hr hr'
      obtain ⟨a, _, rfl⟩ := List.mem_map.mp hr
      obtain ⟨a', _, rfl⟩ := List.mem_map.mp hr'
      have := congrArg Prod.snd e
      have : (0 : Int) + b = 0 + i := this
      have := List.mem_range.mp hb
      omega
theorem allE_ok {n : Nat} {M : Nat → Nat → Int} (mo : MOk n M) {cols : List Int} (cl : cols.length = n) (n12 : n ≤ 12) (cb : ∀ x ∈ cols, 0 ≤ x ∧ x ≤ 1000000000) : WOk cols (allE n M n) := by
  refine ⟨by omega, cb, fun r hr => ?_, nodup_allE n⟩
  obtain ⟨a, b, ha, hb, h, rfl⟩ := mem_allE.mp hr
  have m := mo.2 a b ha hb
  have ne : a ≠ b := fun z => by subst z; rw [mo.1 a ha] at h; omega
  rw [cl]
  exact ⟨show (0 : Int) ≤ 0 + a by omega, show (0 : Int) + a < n by omega, show (0 : Int) ≤ 0 + b by omega, show (0 : Int) + b < n by omega, show (0 : Int) + a ≠ 0 + b by omega, show (1 : Int) ≤ M a b by omega, m.2⟩
theorem mkR_allE {n : Nat} {M : Nat → Nat → Int} (mo : MOk n M) {E : List R3} (p : E.Perm (allE n M n)) {a b : Nat} (ha : a < n) (hb : b < n) : mkR E a b = M a b := by
  have nd : (E.map prR).Nodup := (p.map prR).nodup_iff.mpr (nodup_allE n)
  unfold mkR
  by_cases h : 0 < M a b
  · have : ((a : Int), (b : Int), M a b) ∈ E := p.mem_iff.mpr (mem_allE.mpr ⟨a, b, ha, hb, h, by unfold rowM; rw [Int.zero_add, Int.zero_add]⟩)
    rw [lkR_mem nd this]; rfl
  · have z : M a b = 0 := by have := (mo.2 a b ha hb).1; omega
    have : lkR E a b = none := lkR_none.mpr fun r hr e => by
      obtain ⟨a', b', _, _, h', rfl⟩ := mem_allE.mp (p.mem_iff.mp hr)
      have e1 : (0 : Int) + a' = a := congrArg Prod.fst e
      have e2 : (0 : Int) + b' = b := congrArg Prod.snd e
      obtain rfl : a' = a := by omega
      obtain rfl : b' = b := by omega
      exact h h'
    rw [this, z]; rfl
theorem paired_app {α β : Type} {F : α → β → Prop} : ∀ {l : List α} {m : List β} {l' : List α} {m' : List β}, Paired F l m → Paired F l' m' → Paired F (l ++ l') (m ++ m')
  | _, _, _, _, .nil, h => h
  | _, _, _, _, .cons a h', h => .cons a (paired_app h' h)
end Kx
namespace Kx
open PySem L2
def cellOf (ns : List Int) (k : Int) : List Int := ((List.range ns.length).filter fun a => decide (ns.getD a 0 = k)).map fun (a : Nat) => (0 : Int) + (a : Int)
end Kx
namespace Kx
open PySem L2
def dPair (p : Int × Int) : PyData := .tuple [.int p.1, .int p.2]
def dPairs (ps : List (Int × Int)) : PyData := .tuple (ps.map dPair)
def dLook (lk : List (List (Int × Int))) : PyData := .tuple (lk.map dPairs)
def SrtP (ps : List (Int × Int)) : Prop := ps.Pairwise fun x y => HT.lexLt [y.1, y.2] [x.1, x.2] = false
def up3 (p : Int × Int) : R3 := (p.1, p.2, 0)
theorem lex2 (x y : Int × Int) : HT.lexLt [x.1, x.2] [y.1, y.2] = HT.lexLt (tlR (up3 x)) (tlR (up3 y)) := by
  obtain ⟨a, b⟩ := x
  obtain ⟨a', b'⟩ := y
  show HT.lexLt [a, b] [a', b'] = HT.lexLt [a, b, 0] [a', b', 0]
  rw [HT.lexLt_cons, HT.lexLt_cons, HT.lexLt_nil_nil, HT.lexLt_cons, HT.lexLt_cons, HT.lexLt_cons, HT.lexLt_nil_nil, if_pos rfl]
theorem srtP_uniq {l m : List (Int × Int)} (p : l.Perm m) (h1 : SrtP l) (h2 : SrtP m) : l = m := by
  have conv : ∀ {l : List (Int × Int)}, SrtP l → SrtR (l.map up3) := fun h => by
    unfold SrtR
    rw [List.pairwise_map]
    exact h.imp fun {x y} z => by rw [← lex2]; exact z
  have e := srt_uniq (p.map up3) (conv h1) (conv h2)
  have inj : ∀ {l m : List (Int × Int)}, l.map up3 = m.map up3 → l = m := fun {l} => by
    induction l with
    | nil => intro m e; cases m with
      | nil => rfl
      | cons _ _ => cases e
    | cons x l ih => intro m e; cases m with
      | nil => cases e
      | cons y m =>
        rw [List.map_cons, List.map_cons] at e
        injection e with e1 e2
        obtain ⟨a, b⟩ := x
        obtain ⟨a', b'⟩ := y
        have h1 : a = a' := congrArg Prod.fst e1
        have h2 : b = b' := congrArg (fun z : R3 => z.2.1) e1
        rw [ih e2, h1, h2]
  exact inj e
def plL (M : Nat → Nat → Int) (a : Int) (cell : List Int) : List (Int × Int) := (cell.filter fun b => !decide (b = a)).map fun b => (M a.toNat b.toNat, M b.toNat a.toNat)
def IsLook (M : Nat → Nat → Int) (a : Int) (S : List (List Int)) (lk : List (List (Int × Int))) : Prop := Paired (fun cell ps => ps.Perm (plL M a cell) ∧ SrtP ps) S lk
theorem IsLook.uniq {M : Nat → Nat → Int} {a : Int} : ∀ {S : List (List Int)} {l m : List (List (Int × Int))}, IsLook M a S l → IsLook M a S m → l = m
  | _, _, _, .nil, .nil => rfl
  | _, _, _, .cons h1 r1, .cons h2 r2 => by
    rw [srtP_uniq (h1.1.trans h2.1.symm) h1.2 h2.2, IsLook.uniq r1 r2]
end Kx
namespace Kx
open PySem L2
structure Tell where
  colour : Int
  many : Nat
  look : List (List (Int × Int))
def dTell (t : Tell) : PyData := .tuple [.int t.colour, .int t.many, dLook t.look]
def dTelling (ts : List Tell) : PyData := .tuple (ts.map dTell)
def IsLooks (M : Nat → Nat → Int) (S : List (List Int)) (cell : List Int) (lks : List (List (List (Int × Int)))) : Prop := Paired (fun a lk => IsLook M a S lk) cell lks
theorem IsLooks.uniq {M : Nat → Nat → Int} {S : List (List Int)} : ∀ {cell : List Int} {l m : List (List (List (Int × Int)))}, IsLooks M S cell l → IsLooks M S cell m → l = m
  | _, _, _, .nil, .nil => rfl
  | _, _, _, .cons h1 r1, .cons h2 r2 => by rw [IsLook.uniq h1 h2, IsLooks.uniq r1 r2]
def IsTell (M : Nat → Nat → Int) (cols : List Int) (S : List (List Int)) (cell : List Int) (t : Tell) : Prop :=
  (∃ a ∈ cell, t.colour = cols.getD a.toNat 0) ∧ (∀ a ∈ cell, t.colour ≤ cols.getD a.toNat 0) ∧ t.many = cell.length ∧ ∃ lks, IsLooks M S cell lks ∧ lks[bestD (lks.map dLook)]? = some t.look
theorem IsTell.uniq {M : Nat → Nat → Int} {cols : List Int} {S : List (List Int)} {cell : List Int} {t u : Tell} (h : IsTell M cols S cell t) (h' : IsTell M cols S cell u) : t = u := by
  obtain ⟨⟨a, ha, ea⟩, l1, m1, lks, i1, b1⟩ := h
  obtain ⟨⟨b, hb, eb⟩, l2, m2, lks', i2, b2⟩ := h'
  have e1 : t.colour = u.colour := by
    have x1 := l1 b hb
    have x2 := l2 a ha
    omega
  have e2 := IsLooks.uniq i1 i2
  subst e2
  rw [b1] at b2
  have e3 := Option.some.inj b2
  obtain ⟨c, m, l⟩ := t
  obtain ⟨c', m', l'⟩ := u
  simp only at e1 e3 m1 m2
  rw [e1, e3, m1, m2]
def IsTells (M : Nat → Nat → Int) (cols : List Int) (S S0 : List (List Int)) (ts : List Tell) : Prop := Paired (fun cell t => IsTell M cols S cell t) S0 ts
theorem IsTells.uniq {M : Nat → Nat → Int} {cols : List Int} {S : List (List Int)} : ∀ {S0 : List (List Int)} {l m : List Tell}, IsTells M cols S S0 l → IsTells M cols S S0 m → l = m
  | _, _, _, .nil, .nil => rfl
  | _, _, _, .cons h1 r1, .cons h2 r2 => by rw [IsTell.uniq h1 h2, IsTells.uniq r1 r2]
end Kx
namespace L2
end L2
namespace L2
end L2
namespace L2
end L2
namespace Kx
open PySem L2
theorem kd_tup {H : Hp} {a : Addr} {xs : List V} (h : H a = some (.tup xs)) : kdOf H (.ref a) = some .tup := by unfold kdOf; simp only [h]
end Kx
namespace Kx
end Kx
namespace ST
open PySem PySem.Spec PyProof.Rows
section
variable {prog : Program} {w : World} {A : Around} {E : Value → Shared → Prop} {s : Shared}
def hD : Nat → PyData → Int
  | 0, .int i => hashInt i
  | 0, _ => 0
  | m + 1, .tuple ds => reduceHash (Builtin.Tuple.tupleHashOf (ds.map (hD m)))
  | _ + 1, _ => 0
end
end ST
namespace ST
open PySem PySem.Spec PyProof.Rows
mutual
theorem eqv_uni : ∀ (m : Nat) (d e : PyData), MN.Uni m d → MN.Uni m e → (PyData.eqv d e = true ↔ d = e)
  | 0, d, e, ⟨i, hd⟩, ⟨j, he⟩ => by
    subst hd he
    simp [PyData.eqv]
  | m + 1, d, e, ⟨xs, hd, hx⟩, ⟨ys, he, hy⟩ => by
    subst hd he
    simp only [PyData.eqv, PyData.tuple.injEq]
    exact eqvAll_uni m xs ys hx hy
termination_by m _ _ => (m, 0)
theorem eqvAll_uni : ∀ (m : Nat) (xs ys : List PyData), (∀ x ∈ xs, MN.Uni m x) → (∀ y ∈ ys, MN.Uni m y) → (PyData.eqvAll xs ys = true ↔ xs = ys)
  | m, [], [], _, _ => by simp [PyData.eqvAll]
  | m, [], _ :: _, _, _ => by simp [PyData.eqvAll]
  | m, _ :: _, [], _, _ => by simp [PyData.eqvAll]
  | m, x :: xs, y :: ys, hx, hy => by
    simp only [PyData.eqvAll, Bool.and_eq_true, List.cons.injEq]
    rw [eqv_uni m x y (hx x List.mem_cons_self) (hy y List.mem_cons_self), eqvAll_uni m xs ys (fun z hz => hx z (List.mem_cons_of_mem _ hz)) (fun z hz => hy z (List.mem_cons_of_mem _ hz))]
termination_by m xs ys => (m, xs.length + 1)
end
end ST
namespace ST
end ST
namespace ST
end ST
namespace L2
end L2
namespace MN
open PySem Classical
theorem ltD_int (a b : Int) : ltD (.int a) (.int b) = decide (a < b) := by rw [ltD]
theorem ltD_tup (xs ys : List PyData) : ltD (.tuple xs) (.tuple ys) = ltAll xs ys := by rw [ltD]
structure Ord (m : Nat) : Prop where
  irr : ∀ d, Uni m d → ltD d d = false
  tot : ∀ d e, Uni m d → Uni m e → d ≠ e → ltD d e = true ∨ ltD e d = true
  trans : ∀ d e f, Uni m d → Uni m e → Uni m f → ltD d e = true → ltD e f = true → ltD d f = true
theorem cc {m : Nat} {x y : PyData} (hx : Uni m x) (hy : Uni m y) (xs ys : List PyData) : ltAll (x :: xs) (y :: ys) = if x = y then ltAll xs ys else ltD x y := by
  rw [ltAll_cc]
  have := ST.eqv_uni m x y hx hy
  by_cases e : x = y
  · rw [if_pos (this.mpr e), if_pos e]
  · rw [if_neg (fun z => e (this.mp z)), if_neg e]
theorem ord_all {m : Nat} (O : Ord m) : (∀ xs : List PyData, (∀ x ∈ xs, Uni m x) → ltAll xs xs = false) ∧ (∀ xs ys : List PyData, (∀ x ∈ xs, Uni m x) → (∀ y ∈ ys, Uni m y) → xs ≠ ys → ltAll xs ys = true ∨ ltAll ys xs = true) ∧
    ∀ xs ys zs : List PyData, (∀ x ∈ xs, Uni m x) → (∀ y ∈ ys, Uni m y) → (∀ z ∈ zs, Uni m z) → ltAll xs ys = true → ltAll ys zs = true → ltAll xs zs = true := by
  refine ⟨fun xs => ?_, fun xs => ?_, fun xs => ?_⟩
  · induction xs with
    | nil => intro _; exact ltAll_nn
    | cons x xs ih =>
      intro h
      rw [cc (h x List.mem_cons_self) (h x List.mem_cons_self), if_pos rfl]
      exact ih fun y hy => h y (List.mem_cons_of_mem _ hy)
  · induction xs with
    | nil =>
      intro ys _ _ ne
      cases ys with
      | nil => exact absurd rfl ne
      | cons y ys => exact .inl (ltAll_nc y ys)
    | cons x xs ih =>
      intro ys hx hy ne
      cases ys with
      | nil => exact .inr (ltAll_nc x xs)
      | cons y ys =>
        have ux := hx x List.mem_cons_self
        have uy := hy y List.mem_cons_self
        rw [cc ux uy, cc uy ux]
        by_cases e : x = y
        · rw [if_pos e, if_pos e.symm]
          exact ih ys (fun z hz => hx z (List.mem_cons_of_mem _ hz)) (fun z hz => hy z (List.mem_cons_of_mem _ hz)) fun z => ne (by rw [e, z])
        · rw [if_neg e, if_neg (fun z => e z.symm)]
          exact O.tot x y ux uy e
  · induction xs with
    | nil =>
      intro ys zs _ hy hz h1 h2
      cases zs with
      | nil =>
        cases ys with
        | nil => rw [ltAll_nn] at h1; cases h1
        | cons y ys => rw [ltAll_cn] at h2; cases h2
      | cons z zs => exact ltAll_nc z zs
    | cons x xs ih =>
      intro ys zs hx hy hz h1 h2
      cases ys with
      | nil => rw [ltAll_cn] at h1; cases h1
      | cons y ys =>
        cases zs with
        | nil => rw [ltAll_cn] at h2; cases h2
        | cons z zs =>
          have ux := hx x List.mem_cons_self
          have uy := hy y List.mem_cons_self
          have uz := hz z List.mem_cons_self
          rw [cc ux uy] at h1
          rw [cc uy uz] at h2
          rw [cc ux uz]
          by_cases e1 : x = y
          · rw [if_pos e1] at h1
            by_cases e2 : y = z
            · rw [if_pos e2] at h2
              rw [if_pos (e1.trans e2)]
              exact ih ys zs (fun z hz => hx z (List.mem_cons_of_mem _ hz)) (fun z hz => hy z (List.mem_cons_of_mem _ hz)) (fun w hw => hz w (List.mem_cons_of_mem _ hw)) h1 h2
            · rw [if_neg e2] at h2
              rw [if_neg (fun q => e2 (e1.symm.trans q)), e1]
              exact h2
          · rw [if_neg e1] at h1
            by_cases e2 : y = z
            · rw [if_neg (fun q => e1 (q.trans e2.symm)), ← e2]
              exact h1
            · rw [if_neg e2] at h2
              have h3 := O.trans x y z ux uy uz h1 h2
              have ne : x ≠ z := fun q => by
                rw [q] at h3
                rw [O.irr z uz] at h3
                cases h3
              rw [if_neg ne]
              exact h3
theorem ord : ∀ m : Nat, Ord m
  | 0 => ⟨fun d ⟨i, hd⟩ => by subst hd; rw [ltD_int]; simp, fun d e ⟨i, hd⟩ ⟨j, he⟩ ne => by
      subst hd he
      rw [ltD_int, ltD_int, decide_eq_true_eq, decide_eq_true_eq]
      have : i ≠ j := fun z => ne (by rw [z])
      omega, fun d e f ⟨i, hd⟩ ⟨j, he⟩ ⟨k, hf⟩ h1 h2 => by
      subst hd he hf
      rw [ltD_int, decide_eq_true_eq] at *
      omega⟩
  | m + 1 => by
    obtain ⟨a, b, c⟩ := ord_all (ord m)
    refine ⟨fun d ⟨xs, hd, hx⟩ => by subst hd; rw [ltD_tup]; exact a xs hx, fun d e ⟨xs, hd, hx⟩ ⟨ys, he, hy⟩ ne => ?_, fun d e f ⟨xs, hd, hx⟩ ⟨ys, he, hy⟩ ⟨zs, hf, hz⟩ h1 h2 => ?_⟩
    · subst hd he
      rw [ltD_tup, ltD_tup]
      exact b xs ys hx hy fun z => ne (by rw [z])
    · subst hd he hf
      rw [ltD_tup] at *
      exact c xs ys zs hx hy hz h1 h2
theorem sorted_uniq {m : Nat} : ∀ {l l' : List PyData}, (∀ d ∈ l, Uni m d) → l.Perm l' → l.Pairwise (fun x y => ltD y x = false) → l'.Pairwise (fun x y => ltD y x = false) → l = l'
  | [], l', _, p, _, _ => p.nil_eq
  | x :: l, l', u, p, h1, h2 => by
    cases l' with
    | nil => exact absurd p.length_eq (by simp)
    | cons y l' =>
      have e : x = y := by
        by_cases e : x = y
        · exact e
        · exfalso
          have ux := u x List.mem_cons_self
          have uy := u y (p.mem_iff.mpr List.mem_cons_self)
          have my : y ∈ l := by
            rcases List.mem_cons.mp (p.mem_iff.mpr List.mem_cons_self) with z | z
            · exact absurd z.symm e
            · exact z
          have mx : x ∈ l' := by
            rcases List.mem_cons.mp (p.mem_iff.mp List.mem_cons_self) with z | z
            · exact absurd z e
            · exact z
          have q1 := (List.pairwise_cons.mp h1).1 y my
          have q2 := (List.pairwise_cons.mp h2).1 x mx
          rcases (ord m).tot x y ux uy e with z | z
          · rw [q2] at z; cases z
          · rw [q1] at z; cases z
      subst e
      rw [sorted_uniq (fun d hd => u d (List.mem_cons_of_mem _ hd)) ((List.perm_cons x).mp p) (List.pairwise_cons.mp h1).2 (List.pairwise_cons.mp h2).2]
end MN
namespace ST
end ST
namespace SD
open PySem PySem.W PyProof.Rows
section
variable {α β : Type} {n : Nat} {g : Nat → Nat}
def ev (g : Nat → Nat) (p : Array Nat) (i : Nat) : Nat := g (p.getD i 0)
def rk (lt : Nat → Nat → Bool) (n i : Nat) : Nat := (List.range n).countP (fun k => lt k i)
end
end SD
namespace ST
end ST
namespace L2
open PySem PySem.Spec PyProof.Rows
theorem dpAll_refs {K : PySem.W.Frag} {H : Hp} : ∀ {us : List Addr} {ds : List PyData}, DpAll K H (us.map V.ref) ds ↔ Paired (fun u d => Dp K H (.ref u) d) us ds
  | [], ds => ⟨fun h => by cases h; exact .nil, fun h => by cases h; exact .nil⟩
  | u :: us, ds => ⟨fun h => by cases h with | cons a b => exact .cons a (dpAll_refs.mp b), fun h => by cases h with | cons a b => exact .cons a (dpAll_refs.mpr b)⟩
end L2
namespace L2
open PySem PySem.Spec PyProof.Rows
theorem dpAll_ints {K : PySem.W.Frag} {H : Hp} : ∀ (ns : List Int), DpAll K H (ns.map V.int) (ns.map PyData.int)
  | [] => .nil
  | n :: ns => .cons (.int n) (dpAll_ints ns)
end L2
namespace L2
open PySem PySem.Spec PyProof.Rows PySem.Calls
section
variable {X : Cx} {K : PySem.W.Frag} {w : World}
theorem DGet.same {H H' : Hp} {a : Addr} {i : Int} {o : Option V} (s : Same H H') (g : DGet H a (.int i) o) : DGet H' a (.int i) o := by
  rcases g with ⟨kvs, k, e, ey, l⟩ | ⟨kvs, k, b, e, ey, _⟩
  · exact .inl ⟨kvs, k, e.elim (fun h => .inl (s _ _ h)) (fun ⟨o, h⟩ => .inr ⟨o, s _ _ h⟩), ey, l⟩
  · cases ey
end
end L2
namespace Rr
open PySem Classical L2
noncomputable def grp (key : Int → PyData) (c : List Int) (k : PyData) : List Int := c.filter fun a => decide (key a = k)
def IsParts (key : Int → PyData) (c : List Int) (G : List (List Int)) : Prop :=
  ∃ ks : List PyData, ks.Nodup ∧ ks.Pairwise (fun x y => MN.ltD y x = false) ∧ (∀ d, d ∈ ks ↔ ∃ a ∈ c, key a = d) ∧ G = ks.map (grp key c)
theorem IsParts.uniq {m : Nat} {key : Int → PyData} (u : ∀ a, MN.Uni m (key a)) {c : List Int} {G G' : List (List Int)} (h : IsParts key c G) (h' : IsParts key c G') : G = G' := by
  obtain ⟨ks, n1, s1, m1, rfl⟩ := h
  obtain ⟨ks', n2, s2, m2, rfl⟩ := h'
  have e : ks = ks' := MN.sorted_uniq (m := m) (fun d hd => by obtain ⟨a, _, rfl⟩ := (m1 d).mp hd; exact u a) ((List.perm_ext_iff_of_nodup n1 n2).mpr fun d => (m1 d).trans (m2 d).symm) s1 s2
  rw [e]
theorem grps_perm (key : Int → PyData) (c : List Int) : ∀ (ks : List PyData), ks.Nodup → ((ks.map (grp key c)).flatten).Perm (c.filter fun a => decide (key a ∈ ks))
  | [], _ => by simp
  | k :: ks, nd => by
    obtain ⟨h1, h2⟩ := List.nodup_cons.mp nd
    rw [List.map_cons, List.flatten_cons]
    have ih := grps_perm key c ks h2
    have fp := List.filter_append_perm (fun a => decide (key a = k)) (c.filter fun a => decide (key a ∈ k :: ks))
    refine List.Perm.trans (List.Perm.append ?_ (ih.trans ?_)) fp
    · rw [List.filter_filter]
      unfold grp
      refine List.Perm.of_eq (List.filter_congr fun a _ => ?_)
      rw [Bool.eq_iff_iff]
      simp
      intro h; exact .inl h
    · rw [List.filter_filter]
      refine List.Perm.of_eq (List.filter_congr fun a _ => ?_)
      rw [Bool.eq_iff_iff]
      simp
      constructor
      · intro h; exact ⟨fun e => h1 (e ▸ h), .inr h⟩
      · rintro ⟨h, h'⟩; exact h'.resolve_left h
theorem IsParts.perm {key : Int → PyData} {c : List Int} {G : List (List Int)} (h : IsParts key c G) : G.flatten.Perm c := by
  obtain ⟨ks, n1, s1, m1, rfl⟩ := h
  refine (grps_perm key c ks n1).trans (List.Perm.of_eq ?_)
  rw [List.filter_eq_self]
  intro a ha
  exact decide_eq_true ((m1 _).mpr ⟨a, ha, rfl⟩)
theorem IsParts.pos {key : Int → PyData} {c : List Int} {G : List (List Int)} (h : IsParts key c G) : ∀ g ∈ G, 0 < g.length := by
  obtain ⟨ks, n1, s1, m1, rfl⟩ := h
  intro g hg
  obtain ⟨k, hk, rfl⟩ := List.mem_map.mp hg
  obtain ⟨a, ha, e⟩ := (m1 k).mp hk
  exact List.length_pos_of_mem (a := a) (List.mem_filter.mpr ⟨ha, decide_eq_true e⟩)
structure Std (n : Nat) (S : List (List Int)) : Prop where
  n12 : n ≤ 12
  nd : S.flatten.Nodup
  pos : ∀ c ∈ S, 0 < c.length
  inn : ∀ c ∈ S, ∀ x ∈ c, Rg.In n x
theorem nodup_le : ∀ {l : List Int} {n : Nat}, l.Nodup → (∀ x ∈ l, Rg.In n x) → l.length ≤ n := fun {l n} nd h => by
  have hs : ∀ x ∈ l, x ∈ (List.range n).map fun (i : Nat) => (i : Int) := fun x hx => by
    obtain ⟨a, b⟩ := h x hx
    exact List.mem_map.mpr ⟨x.toNat, List.mem_range.mpr (by omega), by omega⟩
  have key : ∀ {l m : List Int}, l.Nodup → (∀ x ∈ l, x ∈ m) → l.length ≤ m.length := fun {l} => by
    induction l with
    | nil => intro m _ _; exact Nat.zero_le _
    | cons x l ih =>
      intro m h s
      have h2 := List.nodup_cons.mp h
      have hx := s x List.mem_cons_self
      have := ih (m := m.erase x) h2.2 fun y hy => (List.mem_erase_of_ne (fun z => h2.1 (by rw [← z]; exact hy))).mpr (s y (List.mem_cons_of_mem _ hy))
      rw [List.length_erase_of_mem hx] at this
      have := List.length_pos_of_mem hx
      rw [List.length_cons]
      omega
  have := key nd hs
  rwa [List.length_map, List.length_range] at this
theorem cells_le : ∀ {S : List (List Int)}, (∀ c ∈ S, 0 < c.length) → S.length ≤ S.flatten.length
  | [], _ => Nat.le_refl _
  | c :: S, h => by
    have := cells_le fun x hx => h x (List.mem_cons_of_mem c hx)
    have := h c List.mem_cons_self
    rw [List.flatten_cons, List.length_append, List.length_cons]
    omega
theorem cell_le : ∀ {S : List (List Int)} {c : List Int}, c ∈ S → c.length ≤ S.flatten.length
  | d :: S, c, h => by
    rw [List.flatten_cons, List.length_append]
    rcases List.mem_cons.mp h with rfl | h
    · omega
    · have := cell_le h; omega
theorem Std.flat {n : Nat} {S : List (List Int)} (h : Std n S) : S.flatten.length ≤ n := nodup_le h.nd fun x hx => by
  obtain ⟨c, hc, hx⟩ := List.mem_flatten.mp hx
  exact h.inn c hc x hx
theorem Std.cells {n : Nat} {S : List (List Int)} (h : Std n S) : S.length ≤ n := Nat.le_trans (cells_le h.pos) h.flat
theorem Std.cell {n : Nat} {S : List (List Int)} (h : Std n S) {c : List Int} (hc : c ∈ S) : c.length ≤ n := Nat.le_trans (cell_le hc) h.flat
variable {kf : List (List Int) → Int → PyData}
def IsRound (kf : List (List Int) → Int → PyData) (S S' : List (List Int)) : Prop := ∃ Gs : List (List (List Int)), Paired (IsParts (kf S)) S Gs ∧ S' = Gs.flatten
theorem parts_uniq {m : Nat} {key : Int → PyData} (u : ∀ a, MN.Uni m (key a)) : ∀ {S : List (List Int)} {G G' : List (List (List Int))}, Paired (IsParts key) S G → Paired (IsParts key) S G' → G = G'
  | _, _, _, .nil, .nil => rfl
  | _, _, _, .cons a r, .cons a' r' => by rw [IsParts.uniq u a a', parts_uniq u r r']
theorem IsRound.uniq {m : Nat} (u : ∀ S a, MN.Uni m (kf S a)) {S S1 S2 : List (List Int)} (h1 : IsRound kf S S1) (h2 : IsRound kf S S2) : S1 = S2 := by
  obtain ⟨G, p, rfl⟩ := h1
  obtain ⟨G', p', rfl⟩ := h2
  rw [parts_uniq (u S) p p']
theorem parts_flat {key : Int → PyData} : ∀ {S : List (List Int)} {Gs : List (List (List Int))}, Paired (IsParts key) S Gs → Gs.flatten.flatten.Perm S.flatten
  | _, _, .nil => .refl _
  | _, _, .cons a r => by
    rw [List.flatten_cons, List.flatten_append, List.flatten_cons]
    exact a.perm.append (parts_flat r)
theorem parts_pos {key : Int → PyData} : ∀ {S : List (List Int)} {Gs : List (List (List Int))}, Paired (IsParts key) S Gs → ∀ g ∈ Gs.flatten, 0 < g.length
  | _, _, .nil, g, h => by simp at h
  | _, _, .cons a r, g, h => by
    rw [List.flatten_cons, List.mem_append] at h
    rcases h with h | h
    · exact a.pos g h
    · exact parts_pos r g h
noncomputable def nxt (kf : List (List Int) → Int → PyData) (S : List (List Int)) : List (List Int) := Classical.epsilon (IsRound kf S)
noncomputable def its (kf : List (List Int) → Int → PyData) (S : List (List Int)) : Nat → List (List Int)
  | 0 => S
  | i + 1 => nxt kf (its kf S i)
def IsRounds (kf : List (List Int) → Int → PyData) (S : List (List Int)) (l : List (List (List Int))) (L : List (List Int)) : Prop :=
  ∃ k, l = (List.range (k + 1)).map (its kf S) ∧ L = its kf S k ∧ (∀ i, i < k → its kf S (i + 1) ≠ its kf S i) ∧ its kf S (k + 1) = its kf S k
theorem IsRounds.uniq {S : List (List Int)} {l l' : List (List (List Int))} {L L' : List (List Int)} (h : IsRounds kf S l L) (h' : IsRounds kf S l' L') : l = l' ∧ L = L' := by
  obtain ⟨k, e1, e2, a, b⟩ := h
  obtain ⟨k', e1', e2', a', b'⟩ := h'
  have : k = k' := by
    rcases Nat.lt_trichotomy k k' with z | z | z
    · exact absurd b (a' k z)
    · exact z
    · exact absurd b' (a k' z)
  subst this
  exact ⟨e1.trans e1'.symm, e2.trans e2'.symm⟩
end Rr
namespace Kx
open PySem L2
noncomputable def lookF (M : Nat → Nat → Int) (S : List (List Int)) (a : Int) : List (List (Int × Int)) := Classical.epsilon (IsLook M a S)
noncomputable def lkf (M : Nat → Nat → Int) : List (List Int) → Int → PyData := fun S a => dLook (lookF M S a)
end Kx
namespace Kx
open PySem L2
def sp_Wlen (c : Addr) : Sp := fun vs H Q _ => ∃ (a : Addr) (cols : List Int) (E : List R3), vs = [.ref a] ∧ WebAt c H a cols E ∧ Q (.int cols.length) H
section
variable {P : Program} {w : World} {K : PySem.W.Frag} {mg : Str → Option Value} {base : Heap} {c : Addr}
theorem sc_Wlen : FnScope ["self"] ["self"] (defScope s_Wlen) := ⟨rfl, rfl, rfl, by decide +kernel, rfl, by decide +kernel, by decide +kernel⟩
theorem ok_Wlen {f : Addr} {fd : FuncData} (F : Fun K "__len__" "Web.__len__" s_Wlen f fd) (T : Txt mg) (W : WebC K mg c) : FnOk P w K mg base CX0 1 f fd ["self"] (sp_Wlen c) := by
  refine F.ok sc_Wlen (fun vs H Q E h => ?_) (fun cdv A outer s H vs Q E0' hr h => ?_)
  · obtain ⟨a, cols, E, rfl, _⟩ := h
    rfl
  · have nd := sc_Wlen.nd
    obtain ⟨a, cols, E, rfl, ⟨dx, p1, p2, p3, ts, h1, h2, h3, h4, h5⟩, fin⟩ := h
    refine ⟨_, (pss_one (ps_ret (pe_callB (call_lenK (K := K)) (by rfl) T.len (by decide +kernel) (pa_cons (pe_fldK (K := K) (pv 0)) pa_nil)))), ?_⟩
    refine ⟨_, rfl, a, c, dx, _, _, rfl, h1, W.cls, W.nC, rfl, p1, _, rfl, .inr (SqT.of h2), ?_⟩
    rw [List.length_map]; exact fin
end
end Kx
namespace Rr
open PySem Classical L2
noncomputable def cix (S : List (List Int)) (a : Int) : Nat := S.findIdx fun c => decide (a ∈ c)
structure Full (n : Nat) (S : List (List Int)) : Prop where
  n12 : n ≤ 12
  perm : S.flatten.Perm (Nm.upTo n)
  pos : ∀ c ∈ S, 0 < c.length
variable {kf : List (List Int) → Int → PyData}
theorem IsRound.full {n : Nat} {S S' : List (List Int)} (h : IsRound kf S S') (s : Full n S) : Full n S' := by
  obtain ⟨G, p, rfl⟩ := h
  exact ⟨s.n12, (parts_flat p).trans s.perm, parts_pos p⟩
theorem Full.cell {n : Nat} {S : List (List Int)} (h : Full n S) {a : Int} (ha : Rg.In n a) : ∃ c ∈ S, a ∈ c := List.mem_flatten.mp (h.perm.mem_iff.mpr (Nm.mem_upTo.mpr ha))
end Rr
namespace Kx
open PySem L2
theorem map_inj {α β : Type} {f : α → β} (hf : ∀ a b, f a = f b → a = b) : ∀ {l m : List α}, l.map f = m.map f → l = m
  | [], [], _ => rfl
  | [], _ :: _, h => by cases h
  | _ :: _, [], h => by cases h
  | a :: l, b :: m, h => by
    rw [List.map_cons, List.map_cons] at h
    injection h with h1 h2
    rw [hf a b h1, map_inj hf h2]
end Kx
namespace Kx
open PySem L2
def NL (H H' : Hp) : Prop := ∀ b o, H b = some o → (∀ xs, o ≠ .lst xs) → H' b = some o
theorem NL.refl (H : Hp) : NL H H := fun _ _ h _ => h
theorem NL.trans {H H1 H2 : Hp} (a : NL H H1) (b : NL H1 H2) : NL H H2 := fun c o h n => b c o (a c o h n) n
theorem TieRow.nl {H H' : Hp} (s : NL H H') {q : Addr} {n : Nat} {i : Int} {g : Int → Int → Int} (h : TieRow H q n i g) : TieRow H' q n i g := let ⟨us, h1, h2, h3⟩ := h; ⟨us, s _ _ h1 (by intro _ z; cases z), h2, fun j u hj => s _ _ (h3 j u hj) (by intro _ z; cases z)⟩
theorem WebAt.nl {H H' : Hp} (s : NL H H') {c a : Addr} {cols : List Int} {E : List R3} (h : WebAt c H a cols E) : WebAt c H' a cols E := by
  obtain ⟨dx, p1, p2, p3, ts, h1, h2, h3, h4, qs, t1, t2, t3⟩ := h
  exact ⟨dx, p1, p2, p3, ts, s _ _ h1 (by intro _ z; cases z), s _ _ h2 (by intro _ z; cases z), s _ _ h3 (by intro _ z; cases z), Paired.mapP h4 fun _ _ z => s _ _ z (by intro _ z; cases z), qs, s _ _ t1 (by intro _ z; cases z), t2, fun i q hi => (t3 i q hi).nl s⟩
theorem SqT.nl {K : PySem.W.Frag} {H H' : Hp} {a : Addr} {xs : List V} (h : SqT K H a xs) (s : NL H H') : SqT K H' a xs := by
  rcases h with h | h
  · left
    rcases h with h | ⟨u, h⟩
    · exact .inl (s _ _ h (by intro _ z; cases z))
    · exact .inr ⟨u, s _ _ h (by intro _ z; cases z)⟩
  · exact .inr h
mutual
theorem Dp.nl {K : PySem.W.Frag} {H H' : Hp} (s : NL H H') : ∀ (m : Nat) (d : PyData) (v : V), MN.Uni m d → Dp K H v d → Dp K H' v d
  | 0, d, v, u, h => by
    obtain ⟨i, rfl⟩ := u
    cases h
    exact .int i
  | m + 1, d, v, u, h => by
    obtain ⟨ds, rfl, u⟩ := u
    cases h with
    | tup h1 h2 => exact .tup (SqT.nl h1 s) (DpAll.nl s m ds _ u h2)
theorem DpAll.nl {K : PySem.W.Frag} {H H' : Hp} (s : NL H H') : ∀ (m : Nat) (ds : List PyData) (vs : List V), (∀ d ∈ ds, MN.Uni m d) → DpAll K H vs ds → DpAll K H' vs ds
  | m, [], vs, u, h => by
    cases h
    exact .nil
  | m, d :: ds, vs, u, h => by
    cases h with
    | cons a b => exact .cons (Dp.nl s m d _ (u d List.mem_cons_self) a) (DpAll.nl s m ds _ (fun x hx => u x (List.mem_cons_of_mem _ hx)) b)
end
end Kx
namespace Kx
open PySem L2
theorem smallI {n : Int} (h0 : 0 ≤ n) (h1 : n ≤ 1000000000) : n.natAbs.log2 < 30 := by
  by_cases e : n.natAbs = 0
  · rw [e]; decide
  · exact (Nat.log2_lt e).mpr (by omega)
theorem intsB : ∀ {ns : List Int}, (∀ n ∈ ns, 0 ≤ n ∧ n ≤ 1000000000) → PyData.showableAll (ns.map PyData.int) = true ∧ PyData.leavesShortAll 40 (ns.map PyData.int) = true ∧ PyData.weightAll (ns.map PyData.int) ≤ 32 * ns.length
  | [], _ => ⟨rfl, rfl, by simp [PyData.weightAll]⟩
  | m :: ms, h => by
    obtain ⟨h1, h3, h4⟩ := intsB fun n hn => h n (List.mem_cons_of_mem _ hn)
    have hm := smallI (h m List.mem_cons_self).1 (h m List.mem_cons_self).2
    have hL := int_text_length_le (a := m) (k := 30) (by decide) hm
    have hm2 : m.natAbs.log2 < 1920 := by omega
    refine ⟨?_, ?_, ?_⟩
    · simp only [List.map_cons, PyData.showableAll, PyData.showable, h1, Bool.and_true, decide_eq_true hm2]
    · simp only [List.map_cons, PyData.leavesShortAll, PyData.leavesShort, h3, Bool.and_true, decide_eq_true_eq]
      show (Str.ofString (toString m)).length ≤ 40
      rw [PySem.ofString_length]
      omega
    · simp only [List.map_cons, PyData.weightAll, PyData.weight, List.length_cons]; split <;> omega
end Kx
namespace Kx
open PySem L2
theorem flat_ints (c : List Int) : (c.map V.int).all flatV = true := by
  rw [List.all_map, List.all_eq_true]; intro _ _; rfl
end Kx
namespace Rr
open PySem Classical L2
noncomputable def sgc (a : Int) (c : List Int) : List (List Int) := if a ∈ c ∧ 1 < c.length then [[a], c.filter fun b => !decide (b = a)] else [c]
noncomputable def sgl (S : List (List Int)) (a : Int) : List (List Int) := S.flatMap (sgc a)
variable {kf : List (List Int) → Int → PyData}
noncomputable def ref (kf : List (List Int) → Int → PyData) (S : List (List Int)) : List (List Int) := Classical.epsilon fun L => ∃ Ss, IsRounds kf S Ss L
end Rr
namespace ST
open PySem PySem.Spec PyProof.Rows
section
variable {prog : Program} {w : World} {A : Around} {E : Value → Shared → Prop} {s : Shared}
set_option maxHeartbeats 3200000 in
theorem call_set_addsT {l : Addr} {items : Array Value} {Q : Value → Shared → Prop} (hh : A.handled = none) (hl : IsTup s.heap l items) (J : Nat → Heap → Prop)
    (X : Adds prog w A.in1.in1.in1 s.heap.objs.size [s.heap.objs.size + 1] items.size (fun i v => items[i]? = some v) J)
    (j0 : J 0 (s.heap.push (newS w)))
    (h : ∀ (h' : Heap) (tk : Nat), J items.size h' → (∀ b o, b < s.heap.objs.size → s.heap.get? b = some o → h'.get? b = some o) → Q (.ref s.heap.objs.size) { s with heap := h', toks := tk }) :
    wpAny (model prog w) A (call (.type "set") [.ref l]) Q E s := by
  obtain ⟨c, tl, hmro⟩ := F.called_set.mro
  have hmade := F.called_set.made
  have hsub := F.called_set.sub
  refine wpAny_call (codeAny_of_tree ?_)
  show wpAny _ _ (callAny (.type "set") _) _ _ _
  refine wpAny_pure ⟨Code.quiet_builtin _ (by decide +kernel), codeAny_builtin F.entry_type_call ?_⟩
  rw [Around.under_plain (weight_type_call_type "set" [.ref l] []) rfl]
  have h1 := F.called_set.notType
  have h2 := F.called_set.canCreate
  have hct := PySem.F.typeCall_set_1 (.ref l)
  repeat (any_goals (first | assumption | wp_step))
  refine codeAny_mono (code_new (.ref l) (E := E) (Q1 := fun obj s1 => obj = .ref s.heap.objs.size ∧ s1 = { s with heap := s.heap.push (newS w) }) ⟨rfl, rfl⟩) fun r s1 hr => ?_
  cases r with
  | error e => exact hr
  | ok fl =>
    cases fl with
    | ret obj =>
      obtain ⟨rfl, rfl⟩ := hr
      have hS : (s.heap.push (newS w)).get? s.heap.objs.size = some (newS w) := Heap.get?_push_size _ rfl
      have hT : Shared.TypeIs { s with heap := s.heap.push (newS w) } (.ref s.heap.objs.size) "set" := ⟨_, hS, rfl⟩
      have hli := F.called_set.init.lookup
      have hbi := F.called_set.init.bind (.ref s.heap.objs.size)
      repeat (any_goals (first | assumption | wp_step))
      refine codeAny_mono (codeAny_call_builtin (R := wants (fun r s2 => r = .none ∧ ∃ h' tk, s2 = { s with heap := h', toks := tk } ∧ J items.size h' ∧ (∀ b o, b < s.heap.objs.size → s.heap.get? b = some o → h'.get? b = some o)) E) F.called_set.init.plain F.entry_set_init (check_set_init_1 hT ?_)) fun r2 s2 hr2 => ?_
      · obtain ⟨ol, hol, hcl, nl, hdl⟩ := hl
        obtain ⟨ocls, odict, odata, oslots⟩ := ol
        simp only at hcl hdl
        subst hcl
        subst hdl
        have hol' : (s.heap.push (newS w)).get? l = some { cls := .type "tuple", dict := odict, data := .seq items nl, slots := oslots } := Heap.get?_push_of_some _ hol
        have hsls := PySem.F.sub_tuple_set
        have hslf := PySem.F.sub_tuple_frozenset
        have hne : (Value.type "tuple" == Value.type "dict") = false := by decide
        have hl1 : IsTup (s.heap.push (newS w)) l items := ⟨_, hol', rfl, nl, rfl⟩
        unfold Builtin.«set.__init__» noKeywords Builtin.Frozenset.updateFrom
        generalize hPI : pyIter = PI
        wp_walk
        subst hPI
        refine iter_tuple hl1 (wpAny_bind (wpAny_runValue ?_))
        have hlS : l < s.heap.objs.size := Heap.lt_size hol
        have hh3 : A.in1.in1.in1.handled = none := by simp [hh]
        have eI : (s.heap.push (newS w)).objs.size = s.heap.objs.size + 1 := Heap.size_push _ _
        have hneI : l ≠ s.heap.objs.size + 1 := Nat.ne_of_lt (Nat.lt_succ_of_lt hlS)
        have hSf : s.heap.objs.size ∉ [s.heap.objs.size + 1, l] := by
          simp only [List.mem_cons, List.not_mem_nil, or_false, not_or]
          exact ⟨Nat.ne_of_lt (Nat.lt_succ_self _), Nat.ne_of_gt hlS⟩
        have hIg : ((s.heap.push (newS w)).push { cls := .type "tuple_iterator", data := .fields #[.ref l, .int 0 0] }).get? (s.heap.objs.size + 1) = some { cls := .type "tuple_iterator", data := .fields #[.ref l, .int 0 0] } := by
          rw [← eI]
          exact Heap.get?_push_size _ rfl
        rw [eI]
        refine loop_adds (Walks.tuple hh3 _ l hneI items).toS s.heap.objs.size hSf J X (items.size - 0) 0 _ (by omega) (Nat.zero_le _) ?hS ?hJ ?hR
        case hS => exact ⟨⟨_, hIg, rfl, rfl⟩, hl1.keeps fun b o q => Heap.get?_push_of_some _ q⟩
        case hJ => exact X.frame 0 _ _ j0 fun b o _ q => Heap.get?_push_of_some _ q
        intro s' m j
        obtain ⟨h', g', d', tk', os'⟩ := s'
        have eg : g' = s.gens := m.gens
        have ed : d' = s.drawn := m.drawn
        have eo : os' = s.os := m.os
        subst eg
        subst ed
        subst eo
        refine wpAny_pure (show wpAny _ _ (ret Value.none) _ _ _ from wpAny_pure ⟨rfl, h', tk', rfl, j, fun b o hb q => ?_⟩)
        exact m.heap b o (by simp only [List.mem_cons, List.not_mem_nil, or_false, not_or]; exact ⟨Nat.ne_of_lt hb, Nat.ne_of_lt (Nat.lt_succ_of_lt hb)⟩) (Heap.get?_push_of_some _ (Heap.get?_push_of_some _ q))
      · cases r2 with
        | error e => exact hr2
        | ok fl2 =>
          cases fl2 with
          | ret r =>
            obtain ⟨rfl, h', tk, rfl, hS', hk'⟩ := hr2
            repeat (any_goals (first | assumption | wp_step))
            exact h _ _ hS' hk'
          | _ => exact hr2.elim
    | _ => exact hr.elim
end
end ST
namespace L2
open PySem PySem.Spec PyProof.Rows
section
variable {X : Cx} {K : PySem.W.Frag} {w : World}
def rSetIT (K : PySem.W.Frag) (w : World) : List V → Hp → VK → Prop := fun vs H Q => ∃ (a : Addr) (ns : List Int), vs = [.ref a] ∧ SqT K H a (ns.map V.int) ∧ ns.length ≤ 17 ∧ ∀ (S : Addr) (ks : List Int), H S = none → ks.Nodup → (∀ k, k ∈ ks ↔ k ∈ ns) → Q (.ref S) (upd H S (setO w S ks))
theorem cr_setIT (hh : X.A.handled = none) (hK : X.K = K := by rfl) (hw : X.w = w := by rfl) : CallR X (.type "set") (rSetIT K w) := by
  subst hK
  subst hw
  intro pins s σ H vs us Q I r h
  obtain ⟨a, ns, rfl, ha, few, q⟩ := h
  obtain ⟨its, rv, hl, _⟩ := I.tuple ha
  rw [Vals.ref1 r]
  have hi := rv.ints
  have hlen : its.toArray.size = ns.length := by simpa using hi.length
  refine ST.call_set_addsT hh hl _ (ST.adds_int (by simp only [List.mem_cons, List.not_mem_nil, or_false]; exact Nat.ne_of_lt (Nat.lt_succ_self _)) (ns := ns) (by simpa using hi) (by omega)) ?_ fun h' tk j kp => ?_
  · exact ⟨[], ⟨#[], ST.in_fresh (Heap.get?_push_size _ rfl), fun e he => by simp at he, rfl⟩, List.nodup_nil, fun k => by simp, Nat.le_refl _⟩
  · obtain ⟨ks, S, nd, mem, _⟩ := j
    rw [hlen, List.take_length] at mem
    have S0 := S
    obtain ⟨es, ⟨o, ep, t, ho, _⟩, _⟩ := S0
    refine ⟨.ref s.heap.objs.size, _, I.laid (t' := tk) (fun b u e => kp b u (Heap.lt_size e) e) (Nat.le_refl _) (show ObjOk X.prog X.w _ h' _ (setO X.w _ ks) from ⟨S, ⟨o, ho⟩, fun h1 h2 ⟨es, S1, r⟩ k => ⟨es, S1.at k, r⟩⟩), rfl, q _ ks (I.hok.fresh (Nat.le_refl _)) nd mem⟩
def rLenSet (w : World) : List V → Hp → VK → Prop := fun vs H Q => ∃ (S : Addr) (ks : List Int), vs = [.ref S] ∧ H S = some (setO w S ks) ∧ ks.length ≤ 1000 ∧ Q (.int ks.length) H
theorem cr_lenSet (hw : X.w = w := by rfl) : CallR X (.builtin "len") (rLenSet w) := by
  subst hw
  intro pins s σ H vs us Q I r h
  obtain ⟨S, ks, rfl, hS, few, q⟩ := h
  rw [Vals.ref1 r]
  obtain ⟨⟨es, S1, el, hks⟩, _⟩ := (show ObjOk X.prog X.w H s.heap S (setO X.w S ks) from I.hok S _ hS)
  have sz : es.size = ks.length := by rw [← hks, List.length_map, Array.length_toList]
  obtain ⟨o, ep, t, ho, hex, hd, tab, _⟩ := S1
  refine call_len_set ho hex hd tab.fits (by omega) ?_
  rw [sz]
  exact ⟨.int ks.length, H, I.tok _, ⟨_, rfl⟩, q⟩
end
end L2
namespace Kx
open PySem L2
structure RowOk (n : Nat) (row : List Int) : Prop where
  nd : row.Nodup
  inn : ∀ x ∈ row, Rg.In n x
def sp_isrow (c : Addr) : Sp := fun vs H Q _ => ∃ (web q : Addr) (n : Nat) (cols row : List Int) (E : List R3), vs = [.ref web, .ref q] ∧ WebAt c H web cols E ∧ cols.length = n ∧ n ≤ 12 ∧ TI H q row ∧ RowOk n row ∧ ∀ H', Same H H' → Q (.bl true) H'
def sp_ckrow (c : Addr) : Sp := fun vs H Q _ => ∃ (web q : Addr) (n : Nat) (cols row : List Int) (E : List R3), vs = [.ref web, .ref q] ∧ WebAt c H web cols E ∧ cols.length = n ∧ n ≤ 12 ∧ TI H q row ∧ RowOk n row ∧ ∀ H', Same H H' → Q .non H'
theorem row_len {n : Nat} {row : List Int} (h : RowOk n row) : row.length ≤ n := Rr.nodup_le h.nd h.inn
end Kx
namespace Kx
open PySem L2
section
variable {P : Program} {w : World} {K : PySem.W.Frag} {mg : Str → Option Value} {base : Heap} {c : Addr}
theorem sc_isrow : FnScope ["web", "thing", "corner"] ["web", "thing"] (defScope s_isrow) := ⟨rfl, rfl, rfl, by decide +kernel, rfl, by decide +kernel, by decide +kernel⟩
set_option maxHeartbeats 2000000 in
theorem ok_isrow {f : Addr} {fd : FuncData} (F : Fun K "is_row" "is_row" s_isrow f fd) (T : Txt mg) (F_iscorner : Fn P w K mg base "is_corner" 3 ["many", "thing"] sp_iscorner) (M_len : Mt P w K mg base c "__len__" 1 ["self"] (sp_Wlen c)) : FnOk P w K mg base CX0 4 f fd ["web", "thing"] (sp_isrow c) := by
  refine F.ok sc_isrow (fun vs H Q E h => ?_) (fun cdv A outer s H vs Q E0' hr h => ?_)
  · obtain ⟨web, q, n, cols, row, E, rfl, _⟩ := h
    rfl
  · have nd := sc_isrow.nd
    obtain ⟨web, q, n, cols, row, E, rfl, wb, cl, n12, hq, ok, fin⟩ := h
    refine ⟨_, (pss_cons (ps_if (PW.pt (pw_or (pt_not (pt_val (pe_callB cr_isi (by rfl) T.isinstance (by decide +kernel) (pa_cons (pv 1) (pa_cons (pe_bltn (v := .ty "tuple") (by rfl) T.tuple (by decide +kernel) rfl) pa_nil))))) (pw_or1 (pt_not (pt_val (pe_callB (cr_allK (K := K) rfl) (by rfl) T.all (by decide +kernel) (pa_cons (pe_lc (own := [("corner", 2)]) (g := gName 2) (by rfl) nd (pi_tupK (K := K) (pv 1)) (blkOk_by (own := [("corner", 2)]) (N := ["web", "thing", "corner"]) (sc := defScope s_isrow) (by decide +kernel)) (fun _ _ _ _ _ => (pg_name (i := 2) nd rfl (Or.inl rfl))) (fun _ _ _ _ _ => pts_nil) (fun _ _ _ _ _ => (pe_fn F_iscorner hr (pa_cons (pe_callB (cr_lenI M_len hr) (by rfl) T.len (by decide +kernel) (pa_cons (pv 0) pa_nil)) (pa_cons (pv 2) pa_nil))))) pa_nil)))))))
      (pss_one (ps_ret pe_bl))
      pss_nil)
      (pss_one (ps_ret (pe_cmpR op_eq (pe_callB (cr_lenSet (w := w)) (by rfl) T.len (by decide +kernel) (pa_cons (pe_callTy (cr_setIT (K := K) (w := w) hr.hd) (by rfl) T.set (by decide +kernel) (pa_cons (pv 1) pa_nil)) pa_nil)) (pe_callB (call_lenK (K := K)) (by rfl) T.len (by decide +kernel) (pa_cons (pv 1) pa_nil)) (nomark _))))), ?_⟩
    have rl := row_len ok
    refine ⟨_, rfl, _, .tup, Kd.tup, rfl, kd_tup hq, true, rfl, ?_⟩
    refine ⟨_, rfl, q, rfl, ⟨_, SqT.of hq⟩, fun D hD => lc_tup (K := K) (a := q) (xs := row.map V.int) (fun j H' => Same H H' ∧ H' D = some (.lst ((List.replicate j true).map V.bl))) ⟨Same.new hD, upd_same⟩ (fun j H' _ h => SqT.of (h.1 _ _ hq)) ?_ ?_⟩
    · rintro j x H1 hx ⟨s1, hD1⟩
      rw [List.getElem?_map] at hx
      obtain ⟨b, hb, rfl⟩ := Option.map_eq_some_iff.mp hx
      have hj := (List.getElem?_eq_some_iff.mp hb).1
      obtain ⟨b0, b1⟩ := ok.inn b (List.mem_of_getElem? hb)
      have wb1 := wb.same s1
      obtain ⟨dx, p1, p2, p3, ts, hw, hp1, hp2, rows, hties⟩ := id wb1
      refine ⟨rfl, _, rfl, web, dx, _, rfl, hw, web, cols, E, rfl, wb1, ⟨_, rfl, by omega, by omega⟩, _, rfl, .int b, .int, _, rfl, rfl, ?_⟩
      have e : btw (.int b) 0 (((cols.length : Nat) : Int) - 1) = true := by
        unfold btw
        simp
        omega
      rw [e]
      refine ⟨_, hD1, ?_, same_set2 s1 hD, ?_⟩
      · rw [List.length_map, List.length_replicate]; exact small1000 (by omega)
      · rw [upd_same, List.replicate_succ', List.map_append]; rfl
    · rintro H1 ⟨s1, hD1⟩
      refine ⟨D, List.replicate _ true, rfl, SqL.of hD1, ?_⟩
      have e : (List.replicate (row.map V.int).length true).all id = true := by simp
      rw [e]
      refine ⟨true, rfl, iteF ?_⟩
      refine ⟨_, rfl, q, row, rfl, SqT.of (s1 _ _ hq), by omega, fun Z ks hZ ndk mem => ?_⟩
      have lk : ks.length = row.length := ((List.perm_ext_iff_of_nodup ndk ok.nd).mpr mem).length_eq
      have s2 := s1.step (o := setO w Z ks) hZ
      refine ⟨Z, ks, rfl, upd_same, by omega, _, rfl, q, _, rfl, .inr (SqT.of (s2 _ _ hq)), rfl, ?_⟩
      rw [lk, List.length_map, decide_eq_true rfl]
      exact fin _ s2
theorem sc_ckrow : FnScope ["web", "thing"] ["web", "thing"] (defScope s_ckrow) := ⟨rfl, rfl, rfl, by decide +kernel, rfl, by decide +kernel, by decide +kernel⟩
theorem ok_ckrow {f : Addr} {fd : FuncData} (F : Fun K "check_row" "check_row" s_ckrow f fd) (T : Txt mg) (F_isrow : Fn P w K mg base "is_row" 4 ["web", "thing"] (sp_isrow c)) : FnOk P w K mg base CX0 5 f fd ["web", "thing"] (sp_ckrow c) := by
  refine F.ok sc_ckrow (fun vs H Q E h => ?_) (fun cdv A outer s H vs Q E0' hr h => ?_)
  · obtain ⟨web, q, n, cols, row, E, rfl, _⟩ := h
    rfl
  · have nd := sc_ckrow.nd
    obtain ⟨web, q, n, cols, row, E, rfl, wb, cl, n12, hq, ok, fin⟩ := h
    refine ⟨_, (pss_one (ps_if (pt_not (pt_val (pe_fn F_isrow hr (pa_cons (pv 0) (pa_cons (pv 1) pa_nil)))))
      (pss_one ps_never)
      pss_nil)), ?_⟩
    exact ⟨_, rfl, _, rfl, web, q, n, cols, row, E, rfl, wb, cl, n12, hq, ok, fun H1 s1 => ⟨true, rfl, iteF (fin H1 s1)⟩⟩
end
end Kx
namespace MN
end MN
namespace L2
end L2
namespace L2
end L2
namespace Rr
end Rr
namespace Rr
open PySem Classical L2
variable {kf : List (List Int) → Int → PyData} {m n : Nat}
def Sub (S' S : List (List Int)) : Prop := ∀ D ∈ S', ∃ C ∈ S, ∀ x ∈ D, x ∈ C
theorem Sub.refl (S : List (List Int)) : Sub S S := fun D h => ⟨D, h, fun _ h => h⟩
theorem Sub.trans {S1 S2 S3 : List (List Int)} (h : Sub S1 S2) (g : Sub S2 S3) : Sub S1 S3 := fun D hD => by
  obtain ⟨C, hC, a⟩ := h D hD
  obtain ⟨B, hB, b⟩ := g C hC
  exact ⟨B, hB, fun x hx => b x (a x hx)⟩
end Rr
namespace Kx
open PySem L2
def dTold (ts : List Tell) (is : List Int) : PyData := .tuple [dTelling ts, .tuple (is.map PyData.int)]
theorem can_all {α : Type} {f : α → PyData} {k : Nat} : ∀ {l : List α}, (∀ x ∈ l, PyData.canLay0 (f x) = true ∧ PyData.depth (f x) ≤ k) → PyData.canLayAll0 (l.map f) = true ∧ PyData.depthAll (l.map f) ≤ k
  | [], _ => ⟨rfl, by simp [PyData.depthAll]⟩
  | x :: l, h => by
    obtain ⟨h1, h2⟩ := can_all fun y hy => h y (List.mem_cons_of_mem x hy)
    obtain ⟨g1, g2⟩ := h x List.mem_cons_self
    refine ⟨by simp only [List.map_cons, PyData.canLayAll0, g1, h1, Bool.and_true], ?_⟩
    simp only [List.map_cons, PyData.depthAll]; omega
theorem shaped_of {d : PyData} (h : PyData.canLay0 d = true ∧ PyData.depth d ≤ 12) : SeqAt.shaped d = true := by
  unfold SeqAt.shaped
  rw [Bool.and_eq_true]
  exact ⟨h.1, decide_eq_true (by have := h.2; omega)⟩
def KD (M : Nat → Nat → Int) (cols : List Int) (S : List (List Int)) (row : List Int) (x : Int) (d : PyData) : Prop := ∃ ts, IsTells M cols (Rr.ref (lkf M) (Rr.sgl S x)) (Rr.ref (lkf M) (Rr.sgl S x)) ts ∧ d = dTold ts ((row ++ [x]).map fun a => ((Rr.cix (Rr.ref (lkf M) (Rr.sgl S x)) a : Nat) : Int))
instance : Nonempty PyData := ⟨.none⟩
noncomputable def kd (M : Nat → Nat → Int) (cols : List Int) (S : List (List Int)) (row : List Int) (x : Int) : PyData := Classical.epsilon (KD M cols S row x)
theorem KD.eq {M : Nat → Nat → Int} {cols : List Int} {S : List (List Int)} {row : List Int} {x : Int} {d : PyData} (h : KD M cols S row x d) : kd M cols S row x = d := by
  obtain ⟨ts, i, e⟩ := h
  obtain ⟨ts', i', e'⟩ := Classical.epsilon_spec (p := KD M cols S row x) ⟨d, ts, i, e⟩
  have := IsTells.uniq i i'
  subst this
  exact e'.trans e.symm
def tc (S : List (List Int)) : List Int := (S.filter fun c => decide (1 < c.length)).headD []
end Kx
namespace Kx
end Kx
namespace Kx
open PySem L2
structure Nam (n : Nat) (f : Int → Int) : Prop where
  n12 : n ≤ 12
  inn : ∀ x, Rg.In n x → Rg.In n (f x)
  inj : ∀ x y, Rg.In n x → Rg.In n y → f x = f y → x = y
  sur : ∀ y, Rg.In n y → ∃ x, Rg.In n x ∧ f x = y
theorem nodup_mapOn {n : Nat} {f : Int → Int} (N : Nam n f) : ∀ {c : List Int}, c.Nodup → (∀ x ∈ c, Rg.In n x) → (c.map f).Nodup
  | [], _, _ => List.nodup_nil
  | x :: c, nd, h => by
    obtain ⟨h1, h2⟩ := List.nodup_cons.mp nd
    rw [List.map_cons]
    refine List.nodup_cons.mpr ⟨fun z => ?_, nodup_mapOn N h2 fun y hy => h y (List.mem_cons_of_mem _ hy)⟩
    obtain ⟨y, hy, e⟩ := List.mem_map.mp z
    exact h1 ((N.inj y x (h y (List.mem_cons_of_mem _ hy)) (h x List.mem_cons_self) e) ▸ hy)
def Alg (n : Nat) (f : Int → Int) (M M' : Nat → Nat → Int) : Prop := ∀ a b, Rg.In n a → Rg.In n b → M' (f a).toNat (f b).toNat = M a.toNat b.toNat
end Kx
namespace Kx
open PySem L2
def AlgC (n : Nat) (f : Int → Int) (cols cols' : List Int) : Prop := ∀ a, Rg.In n a → cols'.getD (f a).toNat 0 = cols.getD a.toNat 0
end Kx
namespace Kx
open PySem L2
def fφ (φ : List Int) (x : Int) : Int := φ.getD x.toNat 0
theorem fφ_get {n : Nat} {φ : List Int} (h : Nm.IsN n φ) {x : Int} (hx : Rg.In n x) : φ[x.toNat]? = some (fφ φ x) := by
  have l := h.length
  have h1 := hx.1
  have h2 := hx.2
  have e : x.toNat < φ.length := by omega
  unfold fφ
  rw [List.getD_eq_getElem?_getD, List.getElem?_eq_getElem e]; rfl
theorem nam_of {n : Nat} {φ : List Int} (n12 : n ≤ 12) (h : Nm.IsN n φ) : Nam n (fφ φ) := by
  refine ⟨n12, fun x hx => h.mem.mp (List.mem_of_getElem? (fφ_get h hx)), fun x y hx hy e => ?_, fun y hy => ?_⟩
  · have h1 := fφ_get h hx
    have h2 := fφ_get h hy
    rw [← e] at h2
    have l := h.length
    have a1 := hx.1
    have a2 := hx.2
    have b1 := hy.1
    have b2 := hy.2
    have := (List.getElem?_inj (by omega) h.nodup).mp (h1.trans h2.symm)
    omega
  · obtain ⟨i, hi⟩ := List.mem_iff_getElem?.mp (h.mem.mpr hy)
    have hl := (List.getElem?_eq_some_iff.mp hi).1
    have l := h.length
    refine ⟨(i : Int), ⟨by omega, by omega⟩, ?_⟩
    unfold fφ
    rw [List.getD_eq_getElem?_getD, Int.toNat_natCast, hi]; rfl
end Kx
namespace Kx
open PySem L2
theorem rowOk_img {n : Nat} {f : Int → Int} (N : Nam n f) {row : List Int} (ok : RowOk n row) : RowOk n (row.map f) :=
  ⟨nodup_mapOn N ok.nd ok.inn, fun y hy => by obtain ⟨x, hx, rfl⟩ := List.mem_map.mp hy; exact N.inn x (ok.inn x hx)⟩
end Kx
namespace MN
end MN
namespace L2
end L2
namespace Kx
end Kx
namespace Kx
open PySem L2
theorem cut_to {xs : List V} {k : Nat} : cutV xs none (some (k : Int)) = xs.take k := by
  unfold cutV
  rw [HT.sIx_nat, HT.sIx_none, List.drop_zero, Nat.sub_zero]
  by_cases h : k ≤ xs.length
  · rw [Nat.min_eq_left h]
  · rw [Nat.min_eq_right (by omega), List.take_length, List.take_of_length_le (by omega)]
end Kx
namespace Kx
open PySem L2
def sp_back : Sp := fun vs H Q _ => ∃ (a : Addr) (xs : List Int) (n : Nat), vs = [.ref a] ∧ TI H a xs ∧ n ≤ 1000 ∧ Nm.IsN n xs ∧
  ∀ (p : Addr) (H' : Hp), Same H H' → TI H' p (Nm.backF xs) → Q (.ref p) H'
section
variable {P : Program} {w : World} {K : PySem.W.Frag} {mg : Str → Option Value} {base : Heap}
theorem sc_back : FnScope ["naming", "corner"] ["naming"] (defScope s_back) := ⟨rfl, rfl, rfl, by decide +kernel, rfl, by decide +kernel, by decide +kernel⟩
theorem idx_first {xs : List Int} {c : Int} (hm : c ∈ xs) : (xs.map V.int)[xs.idxOf c]? = some (V.int c) ∧ ∀ (m : Nat) (z' : V), m < xs.idxOf c → (xs.map V.int)[m]? = some z' → eqV z' (V.int c) = false := by
  have hi : xs.idxOf c < xs.length := List.idxOf_lt_length_of_mem hm
  refine ⟨by rw [List.getElem?_map, List.getElem?_eq_getElem hi]; simp, fun m z' h1 h2 => ?_⟩
  rw [List.getElem?_map] at h2
  obtain ⟨z, hz, rfl⟩ := Option.map_eq_some_iff.mp h2
  obtain ⟨hl, he⟩ := List.getElem?_eq_some_iff.mp hz
  have : z ≠ c := fun e => by
    subst e
    have := List.not_of_lt_findIdx (p := (· == z)) (xs := xs) (show m < xs.findIdx (· == z) from h1)
    simp [he] at this
  simp [eqV, this]
theorem ok_back {f : Addr} {fd : FuncData} (F : Fun K "back" "back" s_back f fd) (T : Txt mg) : FnOk P w K mg base CX0 1 f fd ["naming"] sp_back := by
  refine F.ok sc_back (fun vs H Q E h => ?_) (fun cdv A outer s H vs Q E hr h => ?_)
  · obtain ⟨a, xs, n, rfl, _⟩ := h
    rfl
  · have nd := sc_back.nd
    obtain ⟨a, xs, n, rfl, ha, hn, hN, k⟩ := h
    have hlen := hN.length
    refine ⟨_, (pss_one (ps_ret (pe_callTy (call_tupleK (K := K)) (by rfl) T.tuple (by decide +kernel) (pa_cons (pe_lc (own := [("corner", 1)]) (g := gName 1) (by rfl) nd (pi_range1 (by rfl) T.range (pa_cons (pe_callB (call_lenK (K := K)) (by rfl) T.len (by decide +kernel) (pa_cons (pv 0) pa_nil)) pa_nil)) (blkOk_by (own := [("corner", 1)]) (N := ["naming", "corner"]) (sc := defScope s_back) (by decide +kernel)) (fun _ _ _ _ _ => (pg_name (i := 1) nd rfl (Or.inl rfl))) (fun _ _ _ _ _ => pts_nil) (fun _ _ _ _ _ => (pe_bmK (K := K) PySem.F.plainAttrs_tuple PySem.F.slot_tuple_index PySem.F.type_tuple_index mt_tindex (pv 0) (pa_cons (pv 1) pa_nil)))) pa_nil)))), ?_⟩
    refine ⟨_, rfl, a, _, rfl, .inr (SqT.of ha), _, rfl, ?_, ?_, fun D hD => ?_⟩
    · rw [List.length_map]; omega
    · rw [List.length_map]; omega
    refine lc_range (lo := 0) (fun i H' => Same H H' ∧ H' D = some (.lst (((Nm.backF xs).take i).map V.int))) ⟨Same.new hD, upd_same⟩ ?_ ?_
    · rintro i H' hi ⟨hS, hDl⟩
      have hi' : i < xs.length := by simpa using hi
      have hm : (0 + (i : Int)) ∈ xs := hN.mem.mpr (by omega)
      obtain ⟨f1, f2⟩ := idx_first hm
      refine ⟨rfl, ?_⟩
      refine ⟨_, rfl, .inr (.inl ⟨rfl, .inr ⟨_, hS _ _ ha⟩⟩), _, rfl, a, _, _, xs.idxOf (0 + (i : Int)), _, rfl, rfl, hS _ _ ha, rfl, by simp [flatV], f1, by simp [eqV], f2, _, hDl, ?_, ?_⟩
      · rw [List.length_map, List.length_take]; exact small1000 (by omega)
      · refine ⟨fun c o e => ?_, ?_⟩
        · rw [upd_ne (ne_of_none e hD)]; exact hS _ _ e
        · rw [upd_same, List.take_succ, Nm.back_get hi']
          simp
    · rintro H' ⟨hS, hDl⟩
      have e : (Nm.backF xs).take ((xs.map V.int).length : Int).toNat = Nm.backF xs := List.take_of_length_le (by rw [Nm.back_length]; simp)
      rw [e] at hDl
      refine ⟨D, _, rfl, .inl ⟨SqL.of hDl, fun l hl => ?_⟩⟩
      exact k l _ (hS.step hl) upd_same
end
end Kx
namespace Kx
end Kx
namespace Kx
end Kx
namespace Kx
end Kx
namespace Kx
end Kx
namespace Kx
end Kx
namespace Kx
open PySem L2
def SAt (K : PySem.W.Frag) (H : Hp) (s a : Addr) (ns : List Int) (n : Nat) : Prop := ∃ i g x : Int, H s = some (.lst [.ref a, .int i, .int g, .int x]) ∧ SqL K H a (ns.map V.int) ∧ ns.length ≤ 63 ∧ 0 ≤ i ∧ i ≤ n ∧ 0 ≤ x ∧ x < 2147483647
theorem SqL.keepS {K : PySem.W.Frag} {H H' : Hp} {s a : Addr} {xs : List Int} {w2 w3 w4 : V} (hs : H s = some (.lst [.ref a, w2, w3, w4])) (k : Keep [s] H H') (h : SqL K H a (xs.map V.int)) : SqL K H' a (xs.map V.int) := by
  rcases h with (h | ⟨o, h⟩) | h
  · refine .inl (.inl (k _ _ h fun m => ?_))
    rw [List.mem_singleton.mp m, hs] at h
    injection h with h
    injection h with h
    cases xs with
    | nil => cases h
    | cons x xs => injection h with h _; cases h
  · refine .inl (.inr ⟨o, k _ _ h fun m => ?_⟩)
    rw [List.mem_singleton.mp m, hs] at h
    cases h
  · exact .inr h
section
variable {K : PySem.W.Frag} {H H' H0 : Hp} {s a l : Addr} {ns : List Int} {n m : Nat} {o : HO}
theorem SAt.same (h : SAt K H s a ns n) (k : Same H H') : SAt K H' s a ns n := let ⟨i, g, x, e, q, r⟩ := h; ⟨i, g, x, k _ _ e, k.seq q, r⟩
theorem SAt.more (h : SAt K H s a ns n) (l : n ≤ m) : SAt K H s a ns m := let ⟨i, g, x, e, q, b, c, d, f⟩ := h; ⟨i, g, x, e, q, b, c, by omega, f⟩
theorem SAt.at (h : SAt K H s a ns n) : ∃ xs, H s = some (.lst xs) := let ⟨_, _, _, e, _⟩ := h; ⟨_, e⟩
theorem SAt.ne (h : SAt K H s a ns n) (hl : H l = none) : l ≠ s := by obtain ⟨_, _, _, e, _⟩ := h; exact (ne_of_none e hl).symm
theorem SAt.setNew (h0 : SAt K H0 s a ns m) (hl : H0 l = none) (h : SAt K H s a ns n) : SAt K (upd H l o) s a ns n := by
  have ne := h0.ne hl
  obtain ⟨_, _, _, _, q0, _⟩ := h0
  obtain ⟨i, g, x, e, q, r⟩ := h
  refine ⟨i, g, x, by rw [upd_ne ne.symm]; exact e, ?_, r⟩
  have na : (∃ u, H0 a = some u) → a ≠ l := fun ⟨u, e⟩ z => by rw [z, hl] at e; cases e
  rcases q0 with (q0 | ⟨_, q0⟩) | q0
  · rcases q with (q | ⟨p, q⟩) | q
    · exact .inl (.inl (by rw [upd_ne (na ⟨_, q0⟩)]; exact q))
    · exact .inl (.inr ⟨p, by rw [upd_ne (na ⟨_, q0⟩)]; exact q⟩)
    · exact .inr q
  · rcases q with (q | ⟨p, q⟩) | q
    · exact .inl (.inl (by rw [upd_ne (na ⟨_, q0⟩)]; exact q))
    · exact .inl (.inr ⟨p, by rw [upd_ne (na ⟨_, q0⟩)]; exact q⟩)
    · exact .inr q
  · exact .inr q0
end
def sp_ftake (K : PySem.W.Frag) : Sp := fun vs H Q _ => ∃ (s a : Addr) (ns : List Int) (n : Nat) (m : Int), vs = [.ref s, .int m] ∧ SAt K H s a ns n ∧ n < 2 ^ 40 ∧ 0 < m ∧ m < 2 ^ 30 ∧
  ∀ (r : Int) (H' : Hp), 0 ≤ r → r < m → SAt K H' s a ns (n + 1) → Keep [s] H H' → Q (.int r) H'
theorem fmerge {F : St → Hp → Prop} {G : Prop} (R : St → Hp → Prop) (a : (∀ σ H, F σ H → R σ H) → G) (b : ∀ σ H, F σ H → R σ H) : G := a b
section
variable {P : Program} {w : World} {K : PySem.W.Frag} {mg : Str → Option Value} {base : Heap}
theorem sc_ftake : FnScope ["_law_state", "_law_below", "_law_found", "_law_cell"] ["_law_state", "_law_below"] (defScope s_ftake) := ⟨rfl, rfl, rfl, by decide +kernel, rfl, by decide +kernel, by decide +kernel⟩
set_option maxHeartbeats 2000000 in
theorem ok_ftake {f : Addr} {fd : FuncData} (F : Fun K "_law_take" "_law_take" s_ftake f fd) (T : Txt mg) : FnOk P w K mg base CX0 1 f fd ["_law_state", "_law_below"] (sp_ftake K) := by
  refine F.ok sc_ftake (fun vs H Q E h => ?_) (fun cdv A outer st H vs Q E hr h => ?_)
  · obtain ⟨s, a, ns, n, m, rfl, _⟩ := h
    rfl
  · have nd := sc_ftake.nd
    obtain ⟨s, a, ns, n, m, rfl, ⟨i, g, x, hs, hS, hl, i0, i1, x0, x1⟩, hn, m0, m1, fin⟩ := h
    refine ⟨_, (pss_cons (ps_if (pt_cmpR op_gt (pe_ix (ix_listK (K := K)) (pv 0) pe_int (fun _ _ => rfl)) pe_int (nomark _))
      (pss_cons (ps_set (i := 2) nd rfl (Or.inl rfl) (pe_op op_mod (pe_ix (ix_listK (K := K)) (pv 0) pe_int (fun _ _ => rfl)) (pv 1)))
      (pss_cons (ps_asg (pe_op op_fdivB (pe_ix (ix_listK (K := K)) (pv 0) pe_int (fun _ _ => rfl)) (pv 1)) (pg_sub (pv 0) pe_int set_list))
      (pss_one (ps_ret (pv 2)))))
      pss_nil)
      (pss_cons (ps_set (i := 3) nd rfl (Or.inl rfl) pe_int)
      (pss_cons (ps_if (pt_cmpR op_lt (pe_ix (ix_listK (K := K)) (pv 0) pe_int (fun _ _ => rfl)) (pe_callB (call_lenK (K := K)) (by rfl) T.len (by decide +kernel) (pa_cons (pe_ix (ix_listK (K := K)) (pv 0) pe_int (fun _ _ => rfl)) pa_nil)) (nomark _))
      (pss_one (ps_set (i := 3) nd rfl (Or.inl rfl) (pe_ix (ix_listK (K := K)) (pe_ix (ix_listK (K := K)) (pv 0) pe_int (fun _ _ => rfl)) (pe_ix (ix_listK (K := K)) (pv 0) pe_int (fun _ _ => rfl)) (fun _ _ => rfl))))
      pss_nil)
      (pss_cons (ps_asg (pe_op op_add (pe_ix (ix_listK (K := K)) (pv 0) pe_int (fun _ _ => rfl)) pe_int) (pg_sub (pv 0) pe_int set_list))
      (pss_cons (ps_if (pt_cmpR op_ge (pv 3) (pe_op op_pow pe_int pe_int) (nomark _))
      (pss_cons (ps_asg (pe_op op_fdivB (pv 3) (pv 1)) (pg_sub (pv 0) pe_int set_list))
      (pss_one (ps_ret (pe_op op_mod (pv 3) (pv 1)))))
      pss_nil)
      (pss_cons (ps_asg (pe_op op_mod (pe_op op_add (pe_op op_add (pe_op op_mul (pe_ix (ix_listK (K := K)) (pv 0) pe_int (fun _ _ => rfl)) pe_int) (pe_op op_mod (pv 3) pe_int)) (pe_op op_mul pe_int (pe_ix (ix_listK (K := K)) (pv 0) pe_int (fun _ _ => rfl)))) pe_int) (pg_sub (pv 0) pe_int set_list))
      (pss_one (ps_ret (pe_op op_mod (pe_op op_fdivB (pe_op op_mod (pe_op op_pow (pe_ix (ix_listK (K := K)) (pv 0) pe_int (fun _ _ => rfl)) pe_int) pe_int) pe_int) (pv 1)))))))))), ?_⟩
    refine ⟨_, rfl, s, _, _, _, rfl, rfl, SqL.of hs, rfl, _, _, rfl, rfl, _, rfl, ?_⟩
    have kp : ∀ xs, Keep [s] H (upd H s xs) := fun xs => (Keep.refl _ _).set (by simp)
    have keepS : ∀ H', Keep [s] H H' → SqL K H' a (ns.map V.int) := fun H' k => SqL.keepS hs k hS
    refine ite2 (fun h => ?_) (fun _ => ?_)
    · refine ⟨_, rfl, s, _, _, _, rfl, rfl, SqL.of hs, rfl, _, rfl, _, _, rfl, rfl, m0, ?_⟩
      refine ⟨_, rfl, s, _, _, _, rfl, rfl, SqL.of hs, rfl, _, rfl, _, _, rfl, rfl, ⟨m0, by omega⟩, _, rfl, s, _, _, 2, rfl, rfl, hs, rfl, ?_⟩
      refine ⟨_, rfl, ?_⟩
      exact fin _ _ (Int.emod_nonneg _ (by omega)) (Int.emod_lt_of_pos _ m0) ⟨_, _, _, upd_same, keepS _ (kp _), hl, i0, by omega, x0, x1⟩ (kp _)
    · refine ⟨_, rfl, s, _, _, _, rfl, rfl, SqL.of hs, rfl, _, rfl, s, _, _, _, rfl, rfl, SqL.of hs, rfl, a, _, rfl, .inl hS, _, _, rfl, rfl, _, rfl, ?_⟩
      refine fmerge (F := fun σ Hx => ∃ v2 v, σ = [some (.ref s), some (.int m), v2, some (.int v)] ∧ Hx = H) ?R (fun rest => ?mm) (fun σ Hx ff => ?r)
      case mm =>
        refine ite2 (fun h => ?_) (fun _ => ?_)
        · have h := of_decide_eq_true h
          rw [List.length_map] at h
          have hk : i.toNat < ns.length := by omega
          refine ⟨_, rfl, s, _, _, _, rfl, rfl, SqL.of hs, rfl, _, rfl, s, _, _, _, rfl, rfl, SqL.of hs, rfl, a, _, _, V.int ns[i.toNat], rfl, rfl, hS, at_of (j := i.toNat) (by omega) (by rw [List.getElem?_map, List.getElem?_eq_getElem hk]; rfl), ?_⟩
          exact rest _ _ ⟨_, _, rfl, rfl⟩
        · exact rest _ _ ⟨_, _, rfl, rfl⟩
      case r =>
      obtain ⟨v2, v, rfl, rfl⟩ := ff
      refine ⟨_, rfl, s, _, _, _, rfl, rfl, SqL.of hs, rfl, _, _, rfl, rfl, _, rfl, s, _, _, 1, rfl, rfl, hs, rfl, ?_⟩
      refine ⟨_, rfl, _, _, rfl, rfl, ⟨by decide, by decide, by decide⟩, _, _, rfl, rfl, _, rfl, ?_⟩
      refine ite2 (fun h => ?_) (fun h => ?_)
      · refine ⟨_, rfl, _, rfl, _, _, rfl, rfl, ⟨m0, by omega⟩, _, rfl, s, _, _, 2, rfl, rfl, upd_same, rfl, ?_⟩
        refine ⟨_, rfl, _, rfl, _, _, rfl, rfl, m0, ?_⟩
        exact fin _ _ (Int.emod_nonneg _ (by omega)) (Int.emod_lt_of_pos _ m0) ⟨_, _, _, upd_same, keepS _ ((kp _).set (by simp)), hl, by omega, by omega, x0, x1⟩ ((kp _).set (by simp))
      · refine ⟨_, rfl, s, _, _, _, rfl, rfl, SqL.of upd_same, rfl, _, _, rfl, rfl, .inr ⟨by decide, by decide⟩, _, rfl, _, _, rfl, rfl, (by show (0 : Int) < 2147483629; decide), _, _, rfl, rfl, _, rfl, s, _, _, _, rfl, rfl, SqL.of upd_same, rfl, _, _, rfl, rfl, .inl ⟨by decide, by decide⟩, _, _, rfl, rfl, _, _, rfl, rfl, (by show (0 : Int) < 2147483647; decide), _, rfl, s, _, _, 3, rfl, rfl, upd_same, rfl, ?_⟩
        have z0 : ∀ y : Int, 0 ≤ y % 2147483647 := fun y => Int.emod_nonneg y (by decide)
        have z1 : ∀ y : Int, y % 2147483647 < 2147483647 := fun y => Int.emod_lt_of_pos y (by decide)
        refine ⟨_, rfl, s, _, _, _, rfl, rfl, SqL.of upd_same, rfl, _, _, rfl, rfl, ⟨by decide, by decide, ?_⟩, _, _, rfl, rfl, (by show (0 : Int) < 2147483629; decide), _, _, rfl, rfl, ⟨by decide, by decide⟩, _, rfl, _, _, rfl, rfl, m0, ?_⟩
        · have a0 := z0 (x * 48271 + v % 2147483629 + 7 * (i + 1))
          have a1 := z1 (x * 48271 + v % 2147483629 + 7 * (i + 1))
          show ((x * 48271 + v % 2147483629 + 7 * (i + 1)) % 2147483647).natAbs < 2 ^ 64
          generalize (x * 48271 + v % 2147483629 + 7 * (i + 1)) % 2147483647 = y at a0 a1
          omega
        exact fin _ _ (Int.emod_nonneg _ (by omega)) (Int.emod_lt_of_pos _ m0) ⟨_, _, _, upd_same, keepS _ ((kp _).set (by simp)), hl, by omega, by omega, z0 _, z1 _⟩ ((kp _).set (by simp))
end
end Kx
namespace Kx
open PySem L2
def sp_fkinds (K : PySem.W.Frag) : Sp := fun vs H Q _ => ∃ (s a : Addr) (ns : List Int) (n : Nat), vs = [.ref s] ∧ SAt K H s a ns n ∧ n + 100 < 2 ^ 40 ∧
  ∀ (l : Addr) (ks : List Int) (H' : Hp), H' l = some (.lst (ks.map V.int)) → H l = none → ks.length = 4 → (∀ x ∈ ks, 0 ≤ x ∧ x ≤ 1000000000) → ks[0]? = some 0 → SAt K H' s a ns (n + 7) → Keep [s] H H' → Q (.ref l) H'
def sp_forder (K : PySem.W.Frag) : Sp := fun vs H Q _ => ∃ (s a : Addr) (ns : List Int) (n m : Nat), vs = [.ref s, .int (m : Int)] ∧ SAt K H s a ns n ∧ n + 100 < 2 ^ 40 ∧ m ≤ 12 ∧
  ∀ (t : Addr) (xs : List Int) (H' : Hp), Nm.IsN m xs → TI H' t xs → SAt K H' s a ns (n + m) → Keep [s] H H' → Q (.ref t) H'
section
variable {P : Program} {w : World} {K : PySem.W.Frag} {mg : Str → Option Value} {base : Heap}
theorem sc_fkinds : FnScope ["_law_state", "_law_great", "_law_found", "_law_k", "_law_more"] ["_law_state"] (defScope s_fkinds) := ⟨rfl, rfl, rfl, by decide +kernel, rfl, by decide +kernel, by decide +kernel⟩
set_option maxHeartbeats 2000000 in
theorem ok_fkinds {f : Addr} {fd : FuncData} (F : Fun K "_law_kinds" "_law_kinds" s_fkinds f fd) (T : Txt mg) (F_ftake : Fn P w K mg base "_law_take" 1 ["_law_state", "_law_below"] (sp_ftake K)) : FnOk P w K mg base CX0 2 f fd ["_law_state"] (sp_fkinds K) := by
  refine F.ok sc_fkinds (fun vs H Q E h => ?_) (fun cdv A outer st H vs Q E hr h => ?_)
  · obtain ⟨s, a, ns, n, rfl, _⟩ := h
    rfl
  · have nd := sc_fkinds.nd
    obtain ⟨s, a, ns, n, rfl, S, hn, fin⟩ := h
    refine ⟨_, (pss_cons (ps_set (i := 1) nd rfl (Or.inl rfl) (pe_cmpR op_eq (pe_fn F_ftake hr (pa_cons (pv 0) (pa_cons pe_int pa_nil))) pe_int (nomark _)))
      (pss_cons (ps_set (i := 2) nd rfl (Or.inl rfl) (pe_lst (pa_cons pe_int (pa_cons pe_int (pa_cons pe_int (pa_cons pe_int pa_nil))))))
      (pss_cons (ps_for PassesOwn.never rfl (pi_range2 (by rfl) T.range (pa_cons pe_int (pa_cons pe_int pa_nil))) (pg_name (i := 3) nd rfl (Or.inl rfl))
      (pss_cons (ps_set (i := 4) nd rfl (Or.inl rfl) (pe_op op_add (pe_op op_mul (pe_fn F_ftake hr (pa_cons (pv 0) (pa_cons (pe_op op_pow pe_int pe_int) pa_nil))) (pe_op op_pow pe_int pe_int)) (pe_fn F_ftake hr (pa_cons (pv 0) (pa_cons (pe_op op_pow pe_int pe_int) pa_nil)))))
      (pss_one (ps_if (pt_val (pv 1))
      (pss_one (ps_asg (pe_op op_add pe_int (pv 4)) (pg_sub (pv 2) (pv 3) set_list)))
      pss_nil))))
      (pss_one (ps_ret (pv 2)))))), ?_⟩
    refine ⟨_, rfl, s, a, ns, n, _, rfl, S, by omega, by decide, by decide, fun t H1 t0 t1 S1 k1 => ⟨rfl, (by show 4 ≤ sizeLine; decide), fun l hl => ?_⟩⟩
    have lH : H l = none := by
      cases e : H l with
      | none => rfl
      | some o =>
        by_cases m : l ∈ [s]
        · obtain ⟨xs, e2⟩ := S1.at
          rw [List.mem_singleton.mp m, e2] at hl; cases hl
        · rw [k1 _ _ e m] at hl; cases hl
    have ls := S.ne lH
    refine ⟨1, 4, rfl, ⟨by decide, by decide, by decide, by decide⟩, for_range (lo := 1) (n := 3) (fun i σ H' => (∃ v3 v4, σ = [some (.ref s), some (.bl (decide (V.int t = V.int 0))), some (.ref l), v3, v4]) ∧ SAt K H' s a ns (n + 1 + 2 * i) ∧ Keep [s] H H' ∧ ∃ ks : List Int, H' l = some (.lst (ks.map V.int)) ∧ ks.length = 4 ∧ ks[0]? = some 0 ∧ ∀ x ∈ ks, 0 ≤ x ∧ x ≤ 1000000000)
      ⟨⟨_, _, rfl⟩, S1.same (Same.new hl), k1.trans (Same.new hl).keep, [0, 1, 1, 2], upd_same, rfl, rfl, by decide⟩ ?_ ?_⟩
    · rintro i σ H2 hi ⟨⟨v3, v4, rfl⟩, S2, k2, ks, hl2, lk, k0, bk⟩
      refine ⟨_, rfl, _, _, rfl, rfl, ⟨by decide, by decide, by decide⟩, s, a, ns, _, _, rfl, S2, by omega, by decide, by decide, fun p H3 p0 p1 S3 k3 => ?_⟩
      refine ⟨_, _, rfl, rfl, ⟨by decide, by decide, by decide⟩, _, _, rfl, rfl, .inr ⟨by decide, by decide⟩, ?_⟩
      refine ⟨_, rfl, _, _, rfl, rfl, ⟨by decide, by decide, by decide⟩, s, a, ns, _, _, rfl, S3, by omega, by decide, by decide, fun q H4 q0 q1 S4 k4 => ⟨_, _, rfl, rfl, ?_⟩⟩
      have p1 : p < 100000 := p1
      have q1 : q < 10000 := q1
      have e10 : ((10 : Int) ^ (4 : Int).toNat) = 10000 := by decide
      have hl4 : H4 l = some (.lst (ks.map V.int)) := k4 _ _ (k3 _ _ hl2 (by simp [ls])) (by simp [ls])
      have k24 := (k2.trans k3).trans k4
      refine ⟨_, rfl, _, rfl, ?_⟩
      refine ite2 (fun _ => ?_) (fun _ => ?_)
      · refine ⟨_, rfl, _, _, rfl, rfl, ?_⟩
        refine ⟨_, rfl, _, rfl, l, _, _, i + 1, rfl, rfl, hl4, ?_, ?_⟩
        · unfold ixN
          rw [List.length_map, lk, if_pos (by omega), if_pos (by omega)]
          congr 1; omega
        · refine ⟨⟨_, _, rfl⟩, (S.setNew lH S4).more (by omega), k24.setNew lH, ks.set (i + 1) (1 + (p * 10 ^ (4 : Int).toNat + q)), by rw [upd_same, List.map_set], by rw [List.length_set]; exact lk, by rw [List.getElem?_set_ne (by omega)]; exact k0, fun x hx => ?_⟩
          rcases List.mem_or_eq_of_mem_set hx with z | z
          · exact bk x z
          · rw [z, e10]; omega
      · exact ⟨⟨_, _, rfl⟩, S4.more (by omega), k24, ks, hl4, lk, k0, bk⟩
    · rintro σ H2 ⟨⟨v3, v4, rfl⟩, S2, k2, ks, hl2, lk, k0, bk⟩
      exact ⟨_, rfl, fin l ks H2 hl2 lH lk bk k0 (S2.more (by omega)) k2⟩
theorem sc_forder : FnScope ["_law_state", "_law_many", "_law_left", "_law_k"] ["_law_state", "_law_many"] (defScope s_forder) := ⟨rfl, rfl, rfl, by decide +kernel, rfl, by decide +kernel, by decide +kernel⟩
set_option maxHeartbeats 2000000 in
theorem ok_forder {f : Addr} {fd : FuncData} (F : Fun K "_law_order" "_law_order" s_forder f fd) (T : Txt mg) (F_ftake : Fn P w K mg base "_law_take" 1 ["_law_state", "_law_below"] (sp_ftake K)) : FnOk P w K mg base CX0 2 f fd ["_law_state", "_law_many"] (sp_forder K) := by
  refine F.ok sc_forder (fun vs H Q E h => ?_) (fun cdv A outer st H vs Q E hr h => ?_)
  · obtain ⟨s, a, ns, n, m, rfl, _⟩ := h
    rfl
  · have nd := sc_forder.nd
    obtain ⟨s, a, ns, n, m, rfl, S, hn, m12, fin⟩ := h
    refine ⟨_, (pss_cons (ps_set (i := 2) nd rfl (Or.inr rfl) (pe_callTy (cr_list_rng hr.hd) (by rfl) T.list (by decide +kernel) (pa_cons (pe_callTy cr_range1 (by rfl) T.range (by decide +kernel) (pa_cons (pv 1) pa_nil)) pa_nil)))
      (pss_one (ps_ret (pe_callTy (call_tupleK (K := K)) (by rfl) T.tuple (by decide +kernel) (pa_cons (pe_lc (own := [("_law_k", 3)]) (g := gName 3) (by rfl) nd (pi_range1 (by rfl) T.range (pa_cons (pv 1) pa_nil)) (blkOk_by (own := [("_law_k", 3)]) (N := ["_law_state", "_law_many", "_law_left", "_law_k"]) (sc := defScope s_forder) (by decide +kernel)) (fun _ _ _ _ _ => (pg_name (i := 3) nd rfl (Or.inl rfl))) (fun _ _ _ _ _ => pts_nil) (fun _ _ _ _ _ => (pe_bmK (K := K) PySem.F.plainAttrs_list PySem.F.slot_list_pop PySem.F.type_list_pop mt_popAt (pv 2) (pa_cons (pe_fn F_ftake hr (pa_cons (pv 0) (pa_cons (pe_callB (call_lenK (K := K)) (by rfl) T.len (by decide +kernel) (pa_cons (pv 2) pa_nil)) pa_nil))) pa_nil)))) pa_nil))))), ?_⟩
    refine ⟨_, rfl, m, rfl, fun r hr0 => ⟨r, m, rfl, upd_same, by omega, by omega, fun l hl => ?_⟩⟩
    have sm : Same H (upd (upd H r (.rng 0 m)) l (.lst ((Nm.upTo (m : Int).toNat).map V.int))) := (Same.new hr0).step hl
    have hl2 : H l = none := (Same.new hr0).free hl
    have hdl := S.ne hl2
    rw [Int.toNat_natCast] at sm ⊢
    refine ⟨_, rfl, m, rfl, by omega, by omega, fun D hD => ?_⟩
    have hD2 : H D = none := sm.free hD
    have hdD := S.ne hD2
    have hlD : l ≠ D := ne_of_none upd_same hD
    refine lc_range (lo := 0) (n := m) (fun i H' => SAt K H' s a ns (n + i) ∧ Keep [s] H H' ∧ ∃ ls fs : List Int, H' l = some (.lst (ls.map V.int)) ∧ H' D = some (.lst (fs.map V.int)) ∧ (fs ++ ls).Perm (Nm.upTo m) ∧ fs.length = i)
      ⟨(S.same sm).same (Same.new hD), (sm.step hD).keep, Nm.upTo m, [], Same.new hD _ _ upd_same, upd_same, List.Perm.refl _, rfl⟩ ?_ ?_
    · rintro i H1 hi ⟨S1, k1, ls, fs, h1, h2, pe, lf⟩
      have hlen := pe.length_eq
      rw [List.length_append, Nm.upTo_length, lf] at hlen
      refine ⟨rfl, _, rfl, .inl ⟨rfl, _, SqL.of h1⟩, _, rfl, _, rfl, l, _, rfl, .inl (SqL.of h1), s, a, ns, _, _, rfl, S1, by omega, by rw [List.length_map]; omega, by rw [List.length_map]; omega, fun t H2 t0 t1 S2 k2 => ?_⟩
      rw [List.length_map] at t1
      have h1' := k2 _ _ h1 (by simp [hdl])
      have h2' := k2 _ _ h2 (by simp [hdD])
      have htl : t.toNat < ls.length := by omega
      refine ⟨l, _, t, t.toNat, V.int (ls[t.toNat]), rfl, rfl, h1', by omega, by omega, seqIx t0 (by rw [List.length_map]; omega), ?_, fs.map V.int, ?_, ?_, ?_⟩
      · rw [List.getElem?_map, List.getElem?_eq_getElem htl]; rfl
      · rw [upd_ne hlD.symm]; exact h2'
      · rw [List.length_map, lf]; exact small1000 (by omega)
      · refine ⟨S.setNew hD2 (S.setNew hl2 (S2.more (by omega))), ((k1.trans k2).setNew hl2).setNew hD2, ls.eraseIdx t.toNat, fs ++ [ls[t.toNat]], ?_, ?_, ?_, ?_⟩
        · rw [upd_ne hlD, upd_same, map_erase]
        · rw [upd_same, List.map_append]; rfl
        · refine List.Perm.trans ?_ pe
          rw [List.append_assoc]
          exact List.Perm.append_left _ (perm_erase ls _ htl)
        · rw [List.length_append, lf]; rfl
    · rintro H1 ⟨S1, k1, ls, fs, h1, h2, pe, lf⟩
      have hlen := pe.length_eq
      rw [List.length_append, Nm.upTo_length, lf] at hlen
      have e0 : ls = [] := List.eq_nil_of_length_eq_zero (by omega)
      subst e0
      rw [List.append_nil] at pe
      exact ⟨D, _, rfl, .inl ⟨SqL.of h2, fun t ht => fin t fs _ pe upd_same (S1.same (Same.new ht)) (k1.trans (Same.new ht).keep)⟩⟩
end
end Kx
namespace Kx
open PySem L2
structure DrAt (H : Hp) (p ps pk : Addr) (steps kin : List Int) (wide cut : Int) : Prop where
  hp : H p = some (.lst [.ref ps, .ref pk, .int wide, .int cut])
  hs : H ps = some (.lst (steps.map V.int))
  hk : H pk = some (.lst (kin.map V.int))
structure DrOk (ch : Int) (m : Nat) (steps kin : List Int) (wide cut : Int) : Prop where
  sl : 4 ≤ steps.length
  sl16 : ch ≠ 7 → steps.length = 16
  sb : ∀ x ∈ steps, 0 ≤ x ∧ x ≤ 1000000000
  kl : kin.length = 12
  kb : ∀ x ∈ kin, 0 ≤ x ∧ x < 3
  w0 : 1 ≤ wide ∧ wide ≤ 3
  c0 : 1 ≤ cut ∧ (cut ≤ (m : Int) ∨ cut = 1)
def sp_fentry (K : PySem.W.Frag) : Sp := fun vs H Q _ => ∃ (s a p ps pk : Addr) (ns : List Int) (n m : Nat) (ch x y wide cut : Int) (steps kin : List Int), vs = [.ref s, .int ch, .int (m : Int), .int x, .int y, .ref p] ∧ SAt K H s a ns n ∧ n + 100 < 2 ^ 40 ∧ DrAt H p ps pk steps kin wide cut ∧ DrOk ch m steps kin wide cut ∧ m ≤ 12 ∧ 0 ≤ ch ∧ ch < 8 ∧ Rg.In m x ∧ Rg.In m y ∧
  ∀ (r : Int) (H' : Hp), 0 ≤ r → r ≤ 1000000000 → (r = 0 ∨ r ∈ steps) → SAt K H' s a ns (n + 1) → Keep [s] H H' → Q (.int r) H'
theorem xor16 : ∀ a b : Fin 16, 0 ≤ Builtin.bitXor ((a.val : Nat) : Int) ((b.val : Nat) : Int) ∧ Builtin.bitXor ((a.val : Nat) : Int) ((b.val : Nat) : Int) < 16 := by decide
section
variable {P : Program} {w : World} {K : PySem.W.Frag} {mg : Str → Option Value} {base : Heap}
theorem sc_fentry : FnScope ["_law_state", "_law_choice", "_law_many", "_law_a", "_law_b", "_law_drawn", "_law_steps", "_law_kin", "_law_wide", "_law_cut", "_law_width"] ["_law_state", "_law_choice", "_law_many", "_law_a", "_law_b", "_law_drawn"] (defScope s_fentry) := ⟨rfl, rfl, rfl, by decide +kernel, rfl, by decide +kernel, by decide +kernel⟩
set_option maxHeartbeats 4000000 in
theorem ok_fentry {f : Addr} {fd : FuncData} (F : Fun K "_law_entry" "_law_entry" s_fentry f fd) (T : Txt mg) (F_ftake : Fn P w K mg base "_law_take" 1 ["_law_state", "_law_below"] (sp_ftake K)) : FnOk P w K mg base CX0 2 f fd ["_law_state", "_law_choice", "_law_many", "_law_a", "_law_b", "_law_drawn"] (sp_fentry K) := by
  refine F.ok sc_fentry (fun vs H Q E h => ?_) (fun cdv A outer st H vs Q E hr h => ?_)
  · obtain ⟨s, a, p, ps, pk, ns, n, m, ch, x, y, wide, cut, steps, kin, rfl, _⟩ := h
    rfl
  · have nd := sc_fentry.nd
    obtain ⟨s, a, p, ps, pk, ns, n, m, ch, x, y, wide, cut, steps, kin, rfl, S, hn, ⟨hp, hs, hk⟩, dr, m12, ch0, ch8, ⟨x0, x1⟩, ⟨y0, y1⟩, fin⟩ := h
    refine ⟨_, (pss_cons (ps_asg (pv 5) (pg_lstK (K := K) rfl (pgs_cons (pg_name (i := 6) nd rfl (Or.inl rfl)) (pgs_cons (pg_name (i := 7) nd rfl (Or.inl rfl)) (pgs_cons (pg_name (i := 8) nd rfl (Or.inl rfl)) (pgs_cons (pg_name (i := 9) nd rfl (Or.inl rfl)) pgs_nil))))))
      (pss_cons (ps_if (pt_cmpR op_eq (pv 1) pe_int (nomark _))
      (pss_one (ps_ret (pe_ix (ix_listK (K := K)) (pv 6) pe_int (fun _ _ => rfl))))
      pss_nil)
      (pss_cons (ps_if (pt_cmpR op_lt (pv 1) pe_int (nomark _))
      (pss_cons (ps_set (i := 10) nd rfl (Or.inl rfl) (pe_op op_add (pv 9) (pe_op op_mul (pe_op op_sub (pe_op op_sub (pv 2) (pv 9)) (pv 9)) (pe_callTy call_int1 (by rfl) T.int (by decide +kernel) (pa_cons (pe_cmpR op_ge (pv 3) (pv 9) (nomark _)) pa_nil)))))
      (pss_cons (ps_if (PW.pt (pw_or (pt_cmpR op_ne (pe_cmpR op_ge (pv 3) (pv 9) (nomark _)) (pe_cmpR op_ge (pv 4) (pv 9) (nomark _)) (nomark _)) (pw_or1 (pt_cmpR (op_notInK (K := K)) (pe_op op_mod (pe_op op_sub (pv 3) (pv 4)) (pv 10)) (pe_tup (pa_cons pe_int (pa_cons (pe_op op_sub (pv 10) pe_int) pa_nil))) (by rfl)))))
      (pss_one (ps_ret pe_int))
      pss_nil)
      (pss_one (ps_ret (pe_ix (ix_listK (K := K)) (pv 6) (pe_callTy call_int1 (by rfl) T.int (by decide +kernel) (pa_cons (pe_cmpR op_eq (pe_op op_mod (pe_op op_sub (pv 4) (pv 3)) (pv 10)) pe_int (nomark _)) pa_nil)) (fun _ _ => rfl))))))
      pss_nil)
      (pss_cons (ps_if (pt_cmpR op_eq (pv 1) pe_int (nomark _))
      (pss_one (ps_ret (pe_ix (ix_listK (K := K)) (pv 6) (pe_op op_mod (pe_op op_sub (pv 4) (pv 3)) (pv 2)) (fun _ _ => rfl))))
      pss_nil)
      (pss_cons (ps_if (pt_cmpR op_eq (pv 1) pe_int (nomark _))
      (pss_cons (ps_if (pt_cmpR op_ne (pe_op op_fdiv (pv 3) (pv 8)) (pe_op op_fdiv (pv 4) (pv 8)) (nomark _))
      (pss_one (ps_ret pe_int))
      pss_nil)
      (pss_one (ps_ret (pe_ix (ix_listK (K := K)) (pv 6) (pe_op op_add (pe_op op_mul pe_int (pe_op op_mod (pv 3) (pv 8))) (pe_op op_mod (pv 4) (pv 8))) (fun _ _ => rfl)))))
      pss_nil)
      (pss_cons (ps_if (pt_cmpR op_eq (pv 1) pe_int (nomark _))
      (pss_one (ps_ret (pe_ix (ix_listK (K := K)) (pv 6) (pe_op op_xor (pv 3) (pv 4)) (fun _ _ => rfl))))
      pss_nil)
      (pss_cons (ps_if (pt_cmpR op_eq (pv 1) pe_int (nomark _))
      (pss_one (ps_ret (pe_ix (ix_listK (K := K)) (pv 6) (pe_op op_add (pe_op op_mul pe_int (pe_ix (ix_listK (K := K)) (pv 7) (pv 3) (fun _ _ => rfl))) (pe_ix (ix_listK (K := K)) (pv 7) (pv 4) (fun _ _ => rfl))) (fun _ _ => rfl))))
      pss_nil)
      (pss_one (ps_ret (pe_ix (ix_listK (K := K)) (pv 6) (pe_ixQ (ix_listK (K := K)) (qe_lst (qa_cons pe_int (qa_cons pe_int (qa_cons pe_int (qa_cons pe_int (qa_cons pe_int (qa_cons pe_int (qa_cons pe_int (qa_cons pe_int qa_nil))))))))) (pe_fn F_ftake hr (pa_cons (pv 0) (pa_cons pe_int pa_nil))) (fun _ _ => rfl)) (fun _ _ => rfl))))))))))), ?_⟩
    obtain ⟨w0, w1⟩ := dr.w0
    obtain ⟨c0, c1⟩ := dr.c0
    have m0 : (1 : Int) ≤ m := by omega
    have cm : cut ≤ m := by omega
    have stp : ∀ k : Int, 0 ≤ k → k < steps.length → ∃ r, atI (steps.map V.int) k = some (.int r) ∧ 0 ≤ r ∧ r ≤ 1000000000 ∧ r ∈ steps := fun k k0 k1 => by
      have g : steps[k.toNat]? = some (steps[k.toNat]'(by omega)) := List.getElem?_eq_getElem (by omega)
      obtain ⟨b0, b1⟩ := dr.sb _ (List.mem_of_getElem? g)
      exact ⟨_, at_of (j := k.toNat) (by omega) (by rw [List.getElem?_map, g]; rfl), b0, b1, List.mem_of_getElem? g⟩
    have kn : ∀ k : Int, 0 ≤ k → k < 12 → ∃ r, atI (kin.map V.int) k = some (.int r) ∧ 0 ≤ r ∧ r < 3 := fun k k0 k1 => by
      have l := dr.kl
      have g : kin[k.toNat]? = some (kin[k.toNat]'(by omega)) := List.getElem?_eq_getElem (by omega)
      obtain ⟨b0, b1⟩ := dr.kb _ (List.mem_of_getElem? g)
      exact ⟨_, at_of (j := k.toNat) (by omega) (by rw [List.getElem?_map, g]; rfl), b0, b1⟩
    have S' := S.more (Nat.le_succ n)
    have kr := Keep.refl [s] H
    have sl := dr.sl
    refine ⟨_, rfl, p, _, rfl, SqL.of hp, rfl, _, _, rfl, _, _, rfl, _, _, rfl, _, _, rfl, rfl, ?_⟩
    refine ⟨_, rfl, rfl, _, rfl, ?_⟩
    refine ite2 (fun _ => ?_) (fun n0 => ?_)
    · obtain ⟨r, e, r0, r1, rm⟩ := stp 0 (Int.le_refl 0) (by omega)
      exact ⟨_, rfl, ps, _, _, .int r, rfl, rfl, SqL.of hs, e, fin r H r0 r1 (.inr rm) S' kr⟩
    refine ⟨_, rfl, _, _, rfl, rfl, _, rfl, ?_⟩
    refine ite2 (fun _ => ?_) (fun n3 => ?_)
    · -- rings
      refine ⟨_, rfl, _, rfl, _, rfl, _, _, rfl, rfl, _, rfl, _, _, rfl, rfl, _, rfl, _, rfl, _, _, rfl, rfl, ?_⟩
      refine .inr ⟨_, rfl, _, _, rfl, rfl, .inl ⟨by omega, by omega⟩, _, _, rfl, rfl, ?_⟩
      obtain ⟨W, hW, W1⟩ : ∃ W : Int, cut + ((m : Int) - cut - cut) * (if decide (cut ≤ x) = true then 1 else 0) = W ∧ 1 ≤ W := by
        refine ⟨_, rfl, ?_⟩
        by_cases h : cut ≤ x
        · rw [if_pos (decide_eq_true h)]; omega
        · rw [if_neg (by simp; omega)]; omega
      show gName 10 (V.int (cut + ((m : Int) - cut - cut) * (if decide (cut ≤ x) = true then 1 else 0))) _ _ _
      rw [hW]
      have last : ∀ H', Same H H' → ∃ r, atI (steps.map V.int) (if decide (V.int ((y - x) % W) = V.int 1) = true then 1 else 0) = some (.int r) ∧ 0 ≤ r ∧ r ≤ 1000000000 ∧ r ∈ steps := fun _ _ => by
        by_cases h : decide (V.int ((y - x) % W) = V.int 1) = true
        · rw [if_pos h]; exact stp 1 (by decide) (by omega)
        · rw [if_neg h]; exact stp 0 (by decide) (by omega)
      refine ⟨_, rfl, _, rfl, _, _, rfl, rfl, _, rfl, _, rfl, _, _, rfl, rfl, rfl, _, rfl, ?_⟩
      refine ite2 (fun _ => fin 0 H (by decide) (by decide) (.inl rfl) S' kr) (fun _ => ?_)
      refine ⟨_, rfl, _, rfl, _, _, rfl, rfl, _, rfl, _, _, rfl, rfl, (by show (0 : Int) < W; omega), _, rfl, _, _, rfl, rfl, (by show 2 ≤ sizeLine; decide), fun q hq => ⟨q, _, rfl, .inr (SqT.of upd_same), rfl, rfl, _, rfl, ?_⟩⟩
      have sq := Same.new (o := .tup [.int 1, .int (W - 1)]) hq
      refine ite2 (fun _ => fin 0 _ (by decide) (by decide) (.inl rfl) (S'.same sq) sq.keep) (fun _ => ?_)
      obtain ⟨r, e, r0, r1, rm⟩ := last _ sq
      exact ⟨_, rfl, _, rfl, _, rfl, _, _, rfl, rfl, _, rfl, _, _, rfl, rfl, (by show (0 : Int) < W; omega), rfl, .inr ⟨_, rfl, ps, _, _, .int r, rfl, rfl, SqL.of (sq _ _ hs), e, fin r _ r0 r1 (.inr rm) (S'.same sq) sq.keep⟩⟩
    have no7 : ∀ k : Int, ¬ decide (V.int ch = V.int k) = true → ch ≠ k := fun k h e => h (decide_eq_true (by rw [e]))
    refine ⟨_, rfl, rfl, _, rfl, ?_⟩
    refine ite2 (fun h => ?_) (fun n4 => ?_)
    · have e3 : ch = 3 := V.int.inj (of_decide_eq_true h)
      have l16 := dr.sl16 (by omega)
      obtain ⟨r, e, r0, r1, rm⟩ := stp ((y - x) % (m : Int)) (Int.emod_nonneg _ (by omega)) (by have := Int.emod_lt_of_pos (y - x) (show (0 : Int) < m by omega); omega)
      exact ⟨_, rfl, _, rfl, _, rfl, _, _, rfl, rfl, _, rfl, _, _, rfl, rfl, (by show (0 : Int) < m; omega), ps, _, _, .int r, rfl, rfl, SqL.of hs, e, fin r H r0 r1 (.inr rm) S' kr⟩
    refine ⟨_, rfl, rfl, _, rfl, ?_⟩
    refine ite2 (fun h => ?_) (fun n5 => ?_)
    · have e3 : ch = 4 := V.int.inj (of_decide_eq_true h)
      have l16 := dr.sl16 (by omega)
      refine ⟨_, rfl, _, rfl, _, _, rfl, rfl, ⟨by omega, by omega⟩, _, rfl, _, rfl, _, _, rfl, rfl, ⟨by omega, by omega⟩, rfl, _, rfl, ?_⟩
      refine ite2 (fun _ => fin 0 H (by decide) (by decide) (.inl rfl) S' kr) (fun _ => ?_)
      have a0 := Int.emod_nonneg x (show wide ≠ 0 by omega)
      have a1 := Int.emod_lt_of_pos x (show 0 < wide by omega)
      have b0 := Int.emod_nonneg y (show wide ≠ 0 by omega)
      have b1 := Int.emod_lt_of_pos y (show 0 < wide by omega)
      obtain ⟨r, e, r0, r1, rm⟩ := stp (3 * (x % wide) + y % wide) (by omega) (by omega)
      exact ⟨_, rfl, _, rfl, _, rfl, _, _, rfl, rfl, (by show 0 < wide; omega), _, _, rfl, rfl, .inl ⟨by decide, by decide⟩, _, rfl, _, rfl, _, _, rfl, rfl, (by show 0 < wide; omega), _, _, rfl, rfl, ps, _, _, .int r, rfl, rfl, SqL.of hs, e, fin r H r0 r1 (.inr rm) S' kr⟩
    refine ⟨_, rfl, rfl, _, rfl, ?_⟩
    refine ite2 (fun h => ?_) (fun n6 => ?_)
    · have e3 : ch = 5 := V.int.inj (of_decide_eq_true h)
      have l16 := dr.sl16 (by omega)
      have xb : 0 ≤ Builtin.bitXor x y ∧ Builtin.bitXor x y < 16 := by
        have := xor16 ⟨x.toNat, by omega⟩ ⟨y.toNat, by omega⟩
        simp only [Int.toNat_of_nonneg x0, Int.toNat_of_nonneg y0] at this
        exact this
      obtain ⟨r, e, r0, r1, rm⟩ := stp (Builtin.bitXor x y) xb.1 (by omega)
      exact ⟨_, rfl, _, rfl, _, rfl, _, _, rfl, rfl, ps, _, _, .int r, rfl, rfl, SqL.of hs, e, fin r H r0 r1 (.inr rm) S' kr⟩
    refine ⟨_, rfl, rfl, _, rfl, ?_⟩
    refine ite2 (fun h => ?_) (fun n7 => ?_)
    · have e3 : ch = 6 := V.int.inj (of_decide_eq_true h)
      have l16 := dr.sl16 (by omega)
      obtain ⟨k1, f1, k10, k11⟩ := kn x x0 (by omega)
      obtain ⟨k2, f2, k20, k21⟩ := kn y y0 (by omega)
      obtain ⟨r, e, r0, r1, rm⟩ := stp (3 * k1 + k2) (by omega) (by omega)
      exact ⟨_, rfl, _, rfl, _, rfl, pk, _, _, .int k1, rfl, rfl, SqL.of hk, f1, _, _, rfl, rfl, .inl ⟨by decide, by decide⟩, _, rfl, _, rfl, pk, _, _, .int k2, rfl, rfl, SqL.of hk, f2, _, _, rfl, rfl, ps, _, _, .int r, rfl, rfl, SqL.of hs, e, fin r H r0 r1 (.inr rm) S' kr⟩
    -- any
    refine ⟨_, rfl, (by show 8 ≤ sizeLine; decide), fun l hl => ⟨_, rfl, s, a, ns, n, _, rfl, S.same (Same.new hl), by omega, by decide, by decide, fun t H1 t0 t1 S1 k1 => ?_⟩⟩
    have ls := S.ne hl
    have hl1 := k1 _ _ (upd_same (H := H) (a := l) (o := .lst [.int 0, .int 1, .int 2, .int 3, .int 3, .int 3, .int 3, .int 3])) (by simp [ls])
    have kk : Keep [s] H H1 := (Same.new hl).keep.trans k1
    have pss : ps ≠ s := fun z => by
      obtain ⟨_, _, _, es, _⟩ := S
      rw [z, es] at hs
      injection hs with hs
      injection hs with hs
      cases steps with
      | nil => cases hs
      | cons u us => injection hs with hs _; cases hs
    obtain ⟨q, eq, q0, q1⟩ : ∃ q : Int, atI [V.int 0, .int 1, .int 2, .int 3, .int 3, .int 3, .int 3, .int 3] t = some (.int q) ∧ 0 ≤ q ∧ q ≤ 3 := by
      obtain rfl | rfl | rfl | rfl | rfl | rfl | rfl | rfl : t = 0 ∨ t = 1 ∨ t = 2 ∨ t = 3 ∨ t = 4 ∨ t = 5 ∨ t = 6 ∨ t = 7 := by omega
      all_goals exact ⟨_, rfl, by decide, by decide⟩
    obtain ⟨r, e, r0, r1, rm⟩ := stp q q0 (by omega)
    exact ⟨l, _, _, .int q, rfl, rfl, SqL.of hl1, eq, ps, _, _, .int r, rfl, rfl, SqL.of (kk _ _ hs (by simp [pss])), e, fin r H1 r0 r1 (.inr rm) S1 kk⟩
end
end Kx
namespace Kx
open PySem L2
def PairAt (H : Hp) (p : Addr) (m : Nat) (cols : List Int) (M : Nat → Nat → Int) : Prop := ∃ (tc tb : Addr) (rs : List Addr), H p = some (.lst [.ref tc, .ref tb]) ∧ H tc = some (.tup (cols.map V.int)) ∧ Grid H tb rs m (IG M)
structure POk (m : Nat) (cols : List Int) (M : Nat → Nat → Int) : Prop where
  cl : cols.length = m
  cb : ∀ x ∈ cols, 0 ≤ x ∧ x ≤ 1000000000
  mo : MOk m M
theorem PairAt.same {H H' : Hp} {p : Addr} {m : Nat} {cols : List Int} {M : Nat → Nat → Int} (h : PairAt H p m cols M) (k : Same H H') : PairAt H' p m cols M := let ⟨tc, tb, rs, a, b, g⟩ := h; ⟨tc, tb, rs, k _ _ a, k _ _ b, g.same k⟩
theorem freeK {K : PySem.W.Frag} {H H' : Hp} {s a l : Addr} {ns : List Int} {n : Nat} (k : Keep [s] H H') (S : SAt K H' s a ns n) (hl : H' l = none) : H l = none := by
  cases e : H l with
  | none => rfl
  | some o =>
    by_cases m : l ∈ [s]
    · obtain ⟨xs, e2⟩ := S.at
      rw [List.mem_singleton.mp m, e2] at hl; cases hl
    · rw [k _ _ e m] at hl; cases hl
theorem SAt.off {K : PySem.W.Frag} {H : Hp} {s a l : Addr} {ns xs : List Int} {n : Nat} (S : SAt K H s a ns n) (h : H l = some (.lst (xs.map V.int))) : l ≠ s := fun z => by
  obtain ⟨_, _, _, e, _⟩ := S
  rw [z, e] at h
  injection h with h
  injection h with h
  cases xs with
  | nil => cases h
  | cons x xs => injection h with h _; cases h
theorem SAt.offR {K : PySem.W.Frag} {H : Hp} {s a l : Addr} {ns : List Int} {rs : List Addr} {n : Nat} (S : SAt K H s a ns n) (h : H l = some (.lst (rs.map V.ref))) : l ≠ s := fun z => by
  obtain ⟨_, _, _, e, _⟩ := S
  rw [z, e] at h
  injection h with h
  injection h with h
  match rs, h with
  | [], h => cases h
  | [_], h => cases h
  | _ :: _ :: _, h => injection h with _ h; injection h with h _; cases h
theorem Grid.offS {K : PySem.W.Frag} {H : Hp} {s a p : Addr} {ns : List Int} {rs : List Addr} {n m : Nat} {M : Nat → Nat → Int} (S : SAt K H s a ns n) (g : Grid H p rs m (IG M)) : p ≠ s ∧ ∀ r ∈ rs, r ≠ s := by
  refine ⟨S.offR g.top, fun r hr => ?_⟩
  obtain ⟨i, hi⟩ := List.mem_iff_getElem?.mp hr
  have h := g.row i r hi
  have e : rowV m (IG M i) = ((List.range m).map (M i)).map V.int := by unfold rowV; rw [List.map_map]; rfl
  rw [e] at h
  exact S.off h
theorem Grid.keepS {K : PySem.W.Frag} {H H' : Hp} {s a p : Addr} {ns : List Int} {rs : List Addr} {n m : Nat} {M : Nat → Nat → Int} (S : SAt K H s a ns n) (g : Grid H p rs m (IG M)) (k : Keep [s] H H') : Grid H' p rs m (IG M) := by
  obtain ⟨h1, h2⟩ := g.offS S
  exact g.keep k (fun e => h1 (List.mem_singleton.mp e)) fun r hr e => h2 r hr (List.mem_singleton.mp e)
theorem PairAt.keepS {K : PySem.W.Frag} {H H' : Hp} {s a p : Addr} {ns : List Int} {n m : Nat} {cols : List Int} {M : Nat → Nat → Int} (h : PairAt H p m cols M) (S : SAt K H s a ns n) (k : Keep [s] H H') : PairAt H' p m cols M := by
  obtain ⟨tc, tb, rs, h1, h2, g⟩ := h
  have np : p ≠ s := S.offR (rs := [tc, tb]) h1
  have nt : tc ≠ s := fun z => by obtain ⟨_, e⟩ := S.at; rw [z, e] at h2; cases h2
  exact ⟨tc, tb, rs, k _ _ h1 (by simp [np]), k _ _ h2 (by simp [nt]), g.keepS S k⟩
def sp_fweb (K : PySem.W.Frag) : Sp := fun vs H Q _ => ∃ (s a pk : Addr) (ns ks : List Int) (n m : Nat) (ch : Int), vs = [.ref s, .int ch, .int (m : Int), .ref pk] ∧ SAt K H s a ns n ∧ n + 2000 < 2 ^ 40 ∧ 0 ≤ ch ∧ ch < 8 ∧ m ≤ 12 ∧ H pk = some (.lst (ks.map V.int)) ∧ ks.length = 4 ∧ (∀ x ∈ ks, 0 ≤ x ∧ x ≤ 1000000000) ∧
  ∀ (p : Addr) (cols : List Int) (M : Nat → Nat → Int) (H' : Hp), PairAt H' p m cols M → POk m cols M → (∀ x ∈ cols, x ≠ 7) → (∀ x y, x < m → y < m → M x y = 0 ∨ M x y ∈ ks) → SAt K H' s a ns (n + 500) → Keep [s] H H' → Q (.ref p) H'
theorem DrAt.keep {H H' : Hp} {p ps pk : Addr} {steps kin : List Int} {wide cut : Int} {ex : List Addr} (h : DrAt H p ps pk steps kin wide cut) (k : Keep ex H H') (h1 : p ∉ ex) (h2 : ps ∉ ex) (h3 : pk ∉ ex) : DrAt H' p ps pk steps kin wide cut := ⟨k _ _ h.hp h1, k _ _ h.hs h2, k _ _ h.hk h3⟩
section
variable {P : Program} {w : World} {K : PySem.W.Frag} {mg : Str → Option Value} {base : Heap}
theorem sc_fweb : FnScope ["_law_state", "_law_choice", "_law_many", "_law_kinds_here", "_law_steps", "_law_kin", "_law_cut", "_law_drawn", "_law_table", "_law_a", "_law_b", "_law_colours", "_law_k"] ["_law_state", "_law_choice", "_law_many", "_law_kinds_here"] (defScope s_fweb) := ⟨rfl, rfl, rfl, by decide +kernel, rfl, by decide +kernel, by decide +kernel⟩
set_option maxHeartbeats 0 in
theorem ok_fweb {f : Addr} {fd : FuncData} (F : Fun K "_law_web" "_law_web" s_fweb f fd) (T : Txt mg) (F_ftake : Fn P w K mg base "_law_take" 1 ["_law_state", "_law_below"] (sp_ftake K)) (F_fentry : Fn P w K mg base "_law_entry" 2 ["_law_state", "_law_choice", "_law_many", "_law_a", "_law_b", "_law_drawn"] (sp_fentry K)) : FnOk P w K mg base CX0 3 f fd ["_law_state", "_law_choice", "_law_many", "_law_kinds_here"] (sp_fweb K) := by
  refine F.ok sc_fweb (fun vs H Q E h => ?_) (fun cdv A outer st H vs Q E hr h => ?_)
  · obtain ⟨s, a, pk, ns, ks, n, m, ch, rfl, _⟩ := h
    rfl
  · have nd := sc_fweb.nd
    obtain ⟨s, a, pk, ns, ks, n, m, ch, rfl, S, hn, ch0, ch8, m12, hpk, lk, bk, fin⟩ := h
    refine ⟨_, (pss_cons (ps_setLc (i := 4) (own := [("_law_k", 12)]) (g := gName 12) (by rfl) nd rfl rfl (sw_true rfl rfl rfl (by decide +kernel)) (pi_range1 (by rfl) T.range (pa_cons pe_int pa_nil)) (blkOk_by (own := [("_law_k", 12)]) (N := ["_law_state", "_law_choice", "_law_many", "_law_kinds_here", "_law_steps", "_law_kin", "_law_cut", "_law_drawn", "_law_table", "_law_a", "_law_b", "_law_colours", "_law_k"]) (sc := defScope s_fweb) (by decide +kernel)) (fun _ _ _ _ _ => (pg_name (i := 12) nd rfl (Or.inl rfl))) (fun _ _ _ _ _ => pts_nil) (fun _ _ _ _ _ => (pe_ix (ix_listK (K := K)) (pv 3) (pe_fn F_ftake hr (pa_cons (pv 0) (pa_cons pe_int pa_nil))) (fun _ _ => rfl))))
      (pss_cons (ps_if (pt_cmpR op_eq (pv 1) pe_int (nomark _))
      (pss_one (ps_set (i := 4) nd rfl (Or.inl rfl) (pe_op op_cat (pe_slice (sl_listK (K := K)) (pv 3) (po_some pe_int) po_none) (pe_lstQ (qa_cons pe_int qa_nil)))))
      pss_nil)
      (pss_cons (ps_if (pt_cmpR (op_inK (K := K)) (pv 1) (pe_tupQ (qa_cons pe_int (qa_cons pe_int qa_nil))) (by rfl))
      (pss_one (ps_asg (pe_ix (ix_listK (K := K)) (pv 3) (pe_op op_add pe_int (pe_fn F_ftake hr (pa_cons (pv 0) (pa_cons pe_int pa_nil)))) (fun _ _ => rfl)) (pg_sub (pv 4) pe_int set_list)))
      pss_nil)
      (pss_cons (ps_setLc (i := 5) (own := [("_law_k", 12)]) (g := gName 12) (by rfl) nd rfl rfl (sw_true rfl rfl rfl (by decide +kernel)) (pi_range1 (by rfl) T.range (pa_cons pe_int pa_nil)) (blkOk_by (own := [("_law_k", 12)]) (N := ["_law_state", "_law_choice", "_law_many", "_law_kinds_here", "_law_steps", "_law_kin", "_law_cut", "_law_drawn", "_law_table", "_law_a", "_law_b", "_law_colours", "_law_k"]) (sc := defScope s_fweb) (by decide +kernel)) (fun _ _ _ _ _ => (pg_name (i := 12) nd rfl (Or.inl rfl))) (fun _ _ _ _ _ => pts_nil) (fun _ _ _ _ _ => (pe_fn F_ftake hr (pa_cons (pv 0) (pa_cons pe_int pa_nil)))))
      (pss_consQ (ps_set (i := 6) nd rfl (Or.inl rfl) (pe_callB (call_max2 rfl) (by rfl) T.max (by decide +kernel) (pa_cons pe_int (pa_cons (pe_op op_sub (pv 2) (pe_ixQ (ix_listK (K := K)) (qe_lst (qa_cons pe_int (qa_cons pe_int (qa_cons pe_int (qa_cons pe_int qa_nil))))) (pe_fn F_ftake hr (pa_cons (pv 0) (pa_cons pe_int pa_nil))) (fun _ _ => rfl))) pa_nil))))
      (qss_consR (qs_set (i := 7) nd rfl (Or.inl rfl) (qe_lst (qa_cons (pv 4) (qa_cons (pv 5) (qa_cons (pe_op op_add pe_int (pe_fn F_ftake hr (pa_cons (pv 0) (pa_cons pe_int pa_nil)))) (qa_cons (pe_callB (call_min2 rfl) (by rfl) T.min (by decide +kernel) (pa_cons (pv 6) (pa_cons (pe_callB (call_max2 rfl) (by rfl) T.max (by decide +kernel) (pa_cons pe_int (pa_cons (pv 2) pa_nil))) pa_nil))) qa_nil))))))
      (pss_cons (ps_setLc (i := 8) (own := [("_law_a", 9)]) (g := gName 9) (by rfl) nd rfl rfl (sw_true rfl rfl rfl (by decide +kernel)) (pi_range1 (by rfl) T.range (pa_cons (pv 2) pa_nil)) (blkOk_by (own := [("_law_a", 9)]) (N := ["_law_state", "_law_choice", "_law_many", "_law_kinds_here", "_law_steps", "_law_kin", "_law_cut", "_law_drawn", "_law_table", "_law_a", "_law_b", "_law_colours", "_law_k"]) (sc := defScope s_fweb) (by decide +kernel)) (fun _ _ _ _ _ => (pg_name (i := 9) nd rfl (Or.inl rfl))) (fun _ _ _ _ _ => pts_nil) (fun _ _ _ _ _ => (pe_op op_rep (pe_lstQ (qa_cons pe_int qa_nil)) (pv 2))))
      (pss_cons (ps_for PassesOwn.never rfl (pi_range1 (by rfl) T.range (pa_cons (pv 2) pa_nil)) (pg_name (i := 9) nd rfl (Or.inl rfl))
      (pss_one (ps_for PassesOwn.never rfl (pi_range1 (by rfl) T.range (pa_cons (pv 2) pa_nil)) (pg_name (i := 10) nd rfl (Or.inl rfl))
      (pss_one (ps_if (pt_cmpR op_ne (pv 9) (pv 10) (nomark _))
      (pss_one (ps_asg (pe_fn F_fentry hr (pa_cons (pv 0) (pa_cons (pv 1) (pa_cons (pv 2) (pa_cons (pv 9) (pa_cons (pv 10) (pa_cons (pv 7) pa_nil))))))) (pg_sub (pe_ix (ix_listK (K := K)) (pv 8) (pv 9) (fun _ _ => rfl)) (pv 10) set_list)))
      pss_nil)))))
      (pss_cons (ps_set (i := 11) nd rfl (Or.inl rfl) (pe_op op_rep (pe_lstQ (qa_cons pe_int qa_nil)) (pv 2)))
      (pss_cons (ps_if (pt_cmpR op_eq (pv 1) pe_int (nomark _))
      (pss_one (ps_setLc (i := 11) (own := [("_law_a", 9)]) (g := gName 9) (by rfl) nd rfl rfl (sw_true rfl rfl rfl (by decide +kernel)) (pi_range1 (by rfl) T.range (pa_cons (pv 2) pa_nil)) (blkOk_by (own := [("_law_a", 9)]) (N := ["_law_state", "_law_choice", "_law_many", "_law_kinds_here", "_law_steps", "_law_kin", "_law_cut", "_law_drawn", "_law_table", "_law_a", "_law_b", "_law_colours", "_law_k"]) (sc := defScope s_fweb) (by decide +kernel)) (fun _ _ _ _ _ => (pg_name (i := 9) nd rfl (Or.inl rfl))) (fun _ _ _ _ _ => pts_nil) (fun _ _ _ _ _ => (pe_ixQ (ix_listK (K := K)) (qe_lst (qa_cons pe_int (qa_cons pe_int (qa_cons pe_int (qa_cons (pe_op op_pow pe_int pe_int) qa_nil))))) (pe_fn F_ftake hr (pa_cons (pv 0) (pa_cons pe_int pa_nil))) (fun _ _ => rfl)))))
      pss_nil)
      (pss_cons (ps_if (PW.pt (pw_and (pt_cmpR op_gt (pv 2) pe_int (nomark _)) (pw_and1 (pt_cmpR op_eq (pe_fn F_ftake hr (pa_cons (pv 0) (pa_cons pe_int pa_nil))) pe_int (nomark _)))))
      (pss_one (ps_asg (pe_ixQ (ix_listK (K := K)) (qe_lst (qa_cons pe_int (qa_cons (pe_op op_pow pe_int pe_int) qa_nil))) (pe_fn F_ftake hr (pa_cons (pv 0) (pa_cons pe_int pa_nil))) (fun _ _ => rfl)) (pg_sub (pv 11) (pe_fn F_ftake hr (pa_cons (pv 0) (pa_cons (pv 2) pa_nil))) set_list)))
      pss_nil)
      (pss_one (ps_ret (pe_lstQ (qa_cons (pe_callTy (call_tupleK (K := K)) (by rfl) T.tuple (by decide +kernel) (pa_cons (pv 11) pa_nil)) (qa_cons (pv 8) qa_nil)))))))))))))))), ?_⟩
    have z2 : (2 : Nat) ≤ sizeLine := by decide
    have z4 : (4 : Nat) ≤ sizeLine := by decide
    have pks := S.off hpk
    have kat : ∀ k : Int, 0 ≤ k → k < 4 → ∃ r, atI (ks.map V.int) k = some (.int r) ∧ 0 ≤ r ∧ r ≤ 1000000000 ∧ r ∈ ks := fun k k0 k1 => by
      have g : ks[k.toNat]? = some (ks[k.toNat]'(by omega)) := List.getElem?_eq_getElem (by omega)
      obtain ⟨b0, b1⟩ := bk _ (List.mem_of_getElem? g)
      exact ⟨_, at_of (j := k.toNat) (by omega) (by rw [List.getElem?_map, g]; rfl), b0, b1, List.mem_of_getElem? g⟩
    -- steps
    refine ⟨((16 : Nat) : Int), rfl, by decide, by decide, fun D hD => lc_range (lo := 0) (n := 16) (fun i H' => SAt K H' s a ns (n + i) ∧ Keep [s] H H' ∧ ∃ xs : List Int, H' D = some (.lst (xs.map V.int)) ∧ xs.length = i ∧ ∀ x ∈ xs, 0 ≤ x ∧ x ≤ 1000000000 ∧ (x = 0 ∨ x ∈ ks)) ⟨S.same (Same.new hD), (Same.new hD).keep, [], upd_same, rfl, fun x hx => nomatch hx⟩ ?_ ?_⟩
    · rintro i H1 hi ⟨S1, k1, xs, hD1, lx, bx⟩
      refine ⟨rfl, _, rfl, _, rfl, s, a, ns, _, _, rfl, S1, by omega, by decide, by decide, fun t H2 t0 t1 S2 k2 => ?_⟩
      obtain ⟨r, e, r0, r1, rm⟩ := kat t t0 t1
      have Ds := S.ne hD
      have hD2 := k2 _ _ hD1 (by simp [Ds])
      refine ⟨pk, _, _, .int r, rfl, rfl, SqL.of ((k1.trans k2) _ _ hpk (by simp [pks])), e, _, hD2, by rw [List.length_map, lx]; exact small1000 (by omega), (S.setNew hD S2).more (by omega), (k1.trans k2).setNew hD, xs ++ [r], by rw [upd_same, List.map_append]; rfl, by rw [List.length_append, lx]; rfl, fun x hx => ?_⟩
      rcases List.mem_append.mp hx with z | z
      · exact bx x z
      · rw [List.mem_singleton.mp z]; exact ⟨r0, r1, .inr rm⟩
    rintro H1 ⟨S1, k1, xs, hD1, lx, bx⟩
    have hpk1 := k1 _ _ hpk (by simp [pks])
    refine ⟨_, rfl, rfl, _, rfl, ?_⟩
    refine fmerge (F := fun σ Hx => ∃ (pt : Addr) (xs : List Int), σ = [some (.ref s), some (.int ch), some (.int (m : Int)), some (.ref pk), some (.ref pt), none, none, none, none, none, none, none, none] ∧ SAt K Hx s a ns (n + 16) ∧ Keep [s] H Hx ∧ H pt = none ∧ Hx pt = some (.lst (xs.map V.int)) ∧ 4 ≤ xs.length ∧ (ch ≠ 7 → xs.length = 16) ∧ ∀ x ∈ xs, 0 ≤ x ∧ x ≤ 1000000000 ∧ (x = 0 ∨ x ∈ ks)) ?R (fun rest => ?mm) (fun σ Hx ff => ?r)
    case mm =>
      refine ite2 (fun h => ?pos) (fun h => ?neg)
      case neg => exact rest _ _ ⟨D, xs, rfl, S1, k1, hD, hD1, by omega, fun _ => lx, bx⟩
      case pos =>
        have e7 : ch = 7 := V.int.inj (of_decide_eq_true h)
        obtain ⟨q0, q1, q2, q3, rfl⟩ : ∃ q0 q1 q2 q3 : Int, ks = [q0, q1, q2, q3] := by
          match ks, lk with
          | [a, b, c, d], _ => exact ⟨_, _, _, _, rfl⟩
        refine ⟨_, rfl, _, rfl, pk, _, rfl, SqL.of hpk1, fun q hq => ?_⟩
        have ec : cutV ([q0, q1, q2, q3].map V.int) (some 1) none = [V.int q1, .int q2, .int q3] := rfl
        rw [ec]
        have s3 := Same.new (o := .lst [V.int q1, .int q2, .int q3]) hq
        have hq3 := upd_same (H := H1) (a := q) (o := .lst [V.int q1, .int q2, .int q3])
        generalize upd H1 q (.lst [V.int q1, .int q2, .int q3]) = H3 at s3 hq3 ⊢
        refine ⟨by show 1 ≤ sizeLine; decide, fun l hl => ⟨q, l, _, _, rfl, rfl, Same.new hl _ _ hq3, upd_same, by show 4 ≤ sizeLine; decide, fun pt hpt => ?_⟩⟩
        have s5 := (s3.step (o := .lst [.int 0]) hl).step (o := .lst ([V.int q1, .int q2, .int q3] ++ [.int 0])) hpt
        refine rest _ _ ⟨pt, [q1, q2, q3, 0], rfl, S1.same s5, k1.trans s5.keep, freeK k1 S1 ((s3.step (o := .lst [.int 0]) hl).free hpt), upd_same, Nat.le_refl 4, fun z => absurd e7 z, fun x hx => ?_⟩
        simp only [List.mem_cons, List.not_mem_nil, or_false] at hx
        rcases hx with rfl | rfl | rfl | rfl
        · exact ⟨(bk _ (by simp)).1, (bk _ (by simp)).2, .inr (by simp)⟩
        · exact ⟨(bk _ (by simp)).1, (bk _ (by simp)).2, .inr (by simp)⟩
        · exact ⟨(bk _ (by simp)).1, (bk _ (by simp)).2, .inr (by simp)⟩
        · exact ⟨by decide, by decide, .inl rfl⟩
    case r =>
    obtain ⟨pt, xs, rfl, S2, k2, npt, hpt, l4, l16, bx⟩ := ff
    have pts := S.ne npt
    refine ⟨_, rfl, z2, fun q hq => ⟨q, _, rfl, .inr (SqT.of upd_same), rfl, rfl, _, rfl, ?_⟩⟩
    have sq := Same.new (o := .tup [.int 1, .int 2]) hq
    have hptq := sq _ _ hpt
    have Sq := S2.same sq
    have kq := k2.trans sq.keep
    generalize upd Hx q (.tup [.int 1, .int 2]) = Hq at sq hptq Sq kq ⊢
    clear S2 k2 hpt S1 k1 hpk1 hD1
    refine fmerge (F := fun σ Hx => ∃ xs : List Int, σ = [some (.ref s), some (.int ch), some (.int (m : Int)), some (.ref pk), some (.ref pt), none, none, none, none, none, none, none, none] ∧ SAt K Hx s a ns (n + 17) ∧ Keep [s] H Hx ∧ Hx pt = some (.lst (xs.map V.int)) ∧ 4 ≤ xs.length ∧ (ch ≠ 7 → xs.length = 16) ∧ ∀ x ∈ xs, 0 ≤ x ∧ x ≤ 1000000000 ∧ (x = 0 ∨ x ∈ ks)) ?R2 (fun rest => ?mm2) (fun σ Hx ff => ?r2)
    case mm2 =>
      refine ite2 (fun _ => ?pos) (fun _ => ?neg)
      case neg => exact rest _ _ ⟨xs, rfl, Sq.more (by omega), kq, hptq, l4, l16, bx⟩
      case pos =>
        refine ⟨_, rfl, _, rfl, s, a, ns, _, _, rfl, Sq, by omega, by decide, by decide, fun t H2 t0 t1 S2 k2 => ?_⟩
        obtain ⟨r, e, r0, r1, rm⟩ := kat (1 + t) (by omega) (by omega)
        have hpt2 := k2 _ _ hptq (by simp [pts])
        refine ⟨_, _, rfl, rfl, pk, _, _, .int r, rfl, rfl, SqL.of ((kq.trans k2) _ _ hpk (by simp [pks])), e, _, rfl, pt, _, _, 1, rfl, rfl, hpt2, ?_, ?_⟩
        · unfold ixN
          rw [List.length_map, if_pos (by decide), if_pos (by omega)]; rfl
        · refine rest _ _ ⟨xs.set 1 r, rfl, (S.setNew npt S2).more (by omega), (kq.trans k2).setNew npt, by rw [upd_same, List.map_set], by rw [List.length_set]; exact l4, fun z => by rw [List.length_set]; exact l16 z, fun x hx => ?_⟩
          rcases List.mem_or_eq_of_mem_set hx with z | z
          · exact bx x z
          · rw [z]; exact ⟨r0, r1, .inr rm⟩
    case r2 =>
    obtain ⟨xs, rfl, S2, k2, hpt, l4, l16, bx⟩ := ff
    -- kin
    refine ⟨((12 : Nat) : Int), rfl, by decide, by decide, fun kn hkn => lc_range (lo := 0) (n := 12) (fun i H' => SAt K H' s a ns (n + 17 + i) ∧ Keep [s] Hx H' ∧ ∃ ys : List Int, H' kn = some (.lst (ys.map V.int)) ∧ ys.length = i ∧ ∀ x ∈ ys, 0 ≤ x ∧ x < 3) ⟨S2.same (Same.new hkn), (Same.new hkn).keep, [], upd_same, rfl, fun x hx => nomatch hx⟩ ?_ ?_⟩
    · rintro i H1 hi ⟨S1, k1, ys, hk1, ly, by'⟩
      have kns := S2.ne hkn
      refine ⟨rfl, _, rfl, s, a, ns, _, _, rfl, S1, by omega, by decide, by decide, fun t H3 t0 t1 S3 k3 => ?_⟩
      have hk3 := k3 _ _ hk1 (by simp [kns])
      refine ⟨_, hk3, by rw [List.length_map, ly]; exact small1000 (by omega), (S2.setNew hkn S3).more (by omega), (k1.trans k3).setNew hkn, ys ++ [t], by rw [upd_same, List.map_append]; rfl, by rw [List.length_append, ly]; rfl, fun x hx => ?_⟩
      rcases List.mem_append.mp hx with z | z
      · exact by' x z
      · rw [List.mem_singleton.mp z]; exact ⟨t0, t1⟩
    rintro H1 ⟨S1, k1, ys, hk1, ly, by'⟩
    have kns := S2.ne hkn
    have hpt1 := k1 _ _ hpt (by simp [pts])
    have kk1 := k2.trans k1
    -- cut
    refine ⟨_, rfl, z4, fun l hl => ⟨_, rfl, s, a, ns, _, _, rfl, S1.same (Same.new hl), by omega, by decide, by decide, fun t H3 t0 t1 S3 k3 => ?_⟩⟩
    have ls := S1.ne hl
    have hl3 := k3 _ _ (upd_same (H := H1) (a := l) (o := .lst [.int 0, .int 3, .int 4, .int 0])) (by simp [ls])
    have k13 : Keep [s] H1 H3 := (Same.new hl).keep.trans k3
    obtain ⟨c0, ec, c00⟩ : ∃ c0 : Int, atI [V.int 0, .int 3, .int 4, .int 0] t = some (.int c0) ∧ 0 ≤ c0 := by
      obtain rfl | rfl | rfl | rfl : t = 0 ∨ t = 1 ∨ t = 2 ∨ t = 3 := by omega
      all_goals exact ⟨_, rfl, by decide⟩
    refine ⟨l, _, _, .int c0, rfl, rfl, SqL.of hl3, ec, _, _, rfl, rfl, _, _, rfl, ?_⟩
    have hpt3 := k13 _ _ hpt1 (by simp [pts])
    have hk3 := k13 _ _ hk1 (by simp [kns])
    have kk3 := kk1.trans k13
    -- what a mark is made of
    refine ⟨_, rfl, _, rfl, _, rfl, s, a, ns, _, _, rfl, S3, by omega, by decide, by decide, fun wd H4 w0 w1 S4 k4 => ⟨_, _, rfl, rfl, _, rfl, _, rfl, _, _, rfl, _, _, rfl, z4, fun dr hdr => ?_⟩⟩
    have hpt4 := k4 _ _ hpt3 (by simp [pts])
    have hk4 := k4 _ _ hk3 (by simp [kns])
    have kk4 := kk3.trans k4
    generalize hC : (if (m : Int) - c0 > 1 then (m : Int) - c0 else 1) = C
    generalize hM : (if (m : Int) > 1 then (m : Int) else 1) = B
    have C1 : 1 ≤ C := by rw [← hC]; split <;> omega
    have B1 : 1 ≤ B ∧ (B ≤ (m : Int) ∨ B = 1) := by rw [← hM]; split <;> omega
    generalize hcut : (if B < C then B else C) = cut
    have cut1 : 1 ≤ cut ∧ (cut ≤ (m : Int) ∨ cut = 1) := by
      rw [← hcut]
      by_cases h : B < C
      · rw [if_pos h]; exact B1
      · rw [if_neg h, ← hC]
        split <;> omega
    have dok : DrOk ch m xs ys (1 + wd) cut := ⟨l4, l16, fun x hx => ⟨(bx x hx).1, (bx x hx).2.1⟩, ly, by', ⟨by omega, by omega⟩, cut1⟩
    have sdr := Same.new (o := .lst [.ref pt, .ref kn, .int (1 + wd), .int cut]) hdr
    have hdr5 := upd_same (H := H4) (a := dr) (o := .lst [.ref pt, .ref kn, .int (1 + wd), .int cut])
    have drs := S4.ne hdr
    generalize upd H4 dr (.lst [.ref pt, .ref kn, .int (1 + wd), .int cut]) = Ha at sdr hdr5 ⊢
    have Sa := S4.same sdr
    have da : DrAt Ha dr pt kn xs ys (1 + wd) cut := ⟨hdr5, sdr _ _ hpt4, sdr _ _ hk4⟩
    have kka := kk4.trans sdr.keep
    clear S2 S1 S3 k2 hpt hk1 hpt1 hk3 hpt3 kk1 kk3 hl3 k13 k3 k1 k4
    -- the table
    refine ⟨_, rfl, m, rfl, by omega, by omega, fun tb htb => lc_range (lo := 0) (n := m) (fun i H' => Same Ha H' ∧ ∃ rs : List Addr, H' tb = some (.lst (rs.map V.ref)) ∧ rs.length = i ∧ rs.Nodup ∧ tb ∉ rs ∧ (∀ r ∈ rs, Ha r = none) ∧ ∀ (a : Nat) (r : Addr), rs[a]? = some r → H' r = some (.lst (rowV m (IG (fun _ _ => 0) a))))
      ⟨Same.new htb, [], upd_same, rfl, List.nodup_nil, by simp, by simp, by simp⟩ ?_ ?_⟩
    · rintro i Hb hi ⟨sb, rs, hkb, lr, ndr, kr, newr, rows⟩
      refine ⟨rfl, (by show 1 ≤ sizeLine; decide), fun l1 hl1 => ⟨_, rfl, l1, _, _, rfl, rfl, upd_same, by omega, by omega, by rw [Int.toNat_natCast]; exact Nat.le_trans (show 1 * m ≤ 12 by omega) (by decide), fun r hr' => ?_⟩⟩
      have el : (List.replicate ((m : Int)).toNat [V.int 0]).flatten = rowV m (IG (fun _ _ => 0) i) := by
        rw [Int.toNat_natCast]
        show _ = rowV m (fun _ => V.int 0)
        rw [← rowV_rep]
        generalize m = q
        induction q with
        | zero => rfl
        | succ q ih => rw [List.replicate_succ, List.flatten_cons, ih, List.replicate_succ]; rfl
      rw [el]
      have sc := (Same.new (o := .lst [.int 0]) hl1).step (o := .lst (rowV m (IG (fun _ _ => 0) i))) hr'
      have hrb : Hb r = none := (Same.new hl1).free hr'
      have hrow := upd_same (H := upd Hb l1 (.lst [.int 0])) (a := r) (o := .lst (rowV m (IG (fun _ _ => 0) i)))
      generalize upd (upd Hb l1 (.lst [.int 0])) r (.lst (rowV m (IG (fun _ _ => 0) i))) = Hc at sc hrow
      have rpk : tb ≠ r := ne_of_none hkb hrb
      refine ⟨_, sc _ _ hkb, by rw [List.length_map, lr]; exact small1000 (by omega), same_set2 (sb.trans sc) htb, rs ++ [r], by rw [upd_same, List.map_append]; rfl, by rw [List.length_append, lr]; rfl, ?_, ?_, ?_, ?_⟩
      · refine List.nodup_append.mpr ⟨ndr, by simp, fun a ha b hb e => ?_⟩
        rw [List.mem_singleton] at hb
        obtain ⟨k, hk⟩ := List.mem_iff_getElem?.mp ha
        have := rows k a hk
        rw [e, hb, hrb] at this
        cases this
      · intro z
        rcases List.mem_append.mp z with z | z
        · exact kr z
        · exact rpk (List.mem_singleton.mp z)
      · intro x hx
        rcases List.mem_append.mp hx with z | z
        · exact newr x z
        · rw [List.mem_singleton.mp z]; exact sb.free hrb
      · intro a x ha
        by_cases ca : a < rs.length
        · rw [List.getElem?_append_left ca] at ha
          have hne : x ≠ tb := fun z => kr (by rw [← z]; exact List.mem_of_getElem? ha)
          rw [upd_ne hne]
          exact sc _ _ (rows a x ha)
        · rw [List.getElem?_append_right (by omega)] at ha
          have ea : a = rs.length := by
            have := (List.getElem?_eq_some_iff.mp ha).1
            simp at this
            omega
          rw [ea, Nat.sub_self] at ha
          cases ha
          rw [upd_ne rpk.symm, hrow]
    rintro Hb ⟨sb, rs, htb', lr, ndr, kr, newr, rows⟩
    have gmb : Grid Hb tb rs m (IG (fun _ _ => 0)) := ⟨htb', lr, ndr, kr, rows⟩
    have mob : MOk m (fun _ _ => 0) := ⟨fun _ _ => rfl, fun _ _ _ _ => ⟨Int.le_refl _, (by omega : (0 : Int) ≤ 1000000000)⟩⟩
    have nin : ∀ {z : Addr} {o : HO}, Ha z = some o → z ∉ rs := fun h hr => by rw [newr _ hr] at h; cases h
    have Sb := Sa.same sb
    have db := da.keep (ex := []) (fun b o e _ => sb b o e) (by simp) (by simp) (by simp)
    have kkb := kka.trans sb.keep
    obtain ⟨xsa, hsa⟩ := Sa.at
    have newR : ∀ r ∈ rs, H r = none := fun r hr => freeK kka Sa (newr r hr)
    -- the marks
    refine ⟨_, rfl, m, rfl, by omega, by omega, for_range (lo := 0) (n := m) (fun i σ H' => (∃ v9 v10, σ = [some (.ref s), some (.int ch), some (.int (m : Int)), some (.ref pk), some (.ref pt), some (.ref kn), some (.int C), some (.ref dr), some (.ref tb), v9, v10, none, none]) ∧ SAt K H' s a ns (n + 50 + 12 * i) ∧ Keep [s] H H' ∧ DrAt H' dr pt kn xs ys (1 + wd) cut ∧ ∃ M, Grid H' tb rs m (IG M) ∧ MOk m M ∧ ∀ x y, x < m → y < m → M x y = 0 ∨ M x y ∈ ks)
      ⟨⟨_, _, rfl⟩, Sb.more (by omega), kkb, db, _, gmb, mob, fun _ _ _ _ => .inl rfl⟩ ?_ ?_⟩
    · rintro i σ Hc hi ⟨⟨v9, v10, rfl⟩, Sc, kc, dc, M, gc, mc, ic⟩
      refine ⟨_, rfl, m, rfl, by omega, by omega, for_range (lo := 0) (n := m) (fun j σ H' => (∃ v10, σ = [some (.ref s), some (.int ch), some (.int (m : Int)), some (.ref pk), some (.ref pt), some (.ref kn), some (.int C), some (.ref dr), some (.ref tb), some (.int (0 + (i : Int))), v10, none, none]) ∧ SAt K H' s a ns (n + 50 + 12 * i + j) ∧ Keep [s] H H' ∧ DrAt H' dr pt kn xs ys (1 + wd) cut ∧ ∃ M, Grid H' tb rs m (IG M) ∧ MOk m M ∧ ∀ x y, x < m → y < m → M x y = 0 ∨ M x y ∈ ks)
        ⟨⟨_, rfl⟩, Sc, kc, dc, M, gc, mc, ic⟩ ?_ ?_⟩
      · rintro j σ Hd hj ⟨⟨v10, rfl⟩, Sd, kd, dd, M, gd, md, id'⟩
        refine ⟨_, rfl, _, rfl, rfl, _, rfl, ?_⟩
        by_cases e : i = j
        · rw [decide_eq_true (show V.int (0 + (i : Int)) = V.int (0 + (j : Int)) by rw [e])]
          exact iteF ⟨⟨_, rfl⟩, Sd.more (by omega), kd, dd, M, gd, md, id'⟩
        · rw [decide_eq_false (show ¬ V.int (0 + (i : Int)) = V.int (0 + (j : Int)) from fun z => e (by have := V.int.inj z; omega))]
          refine ⟨_, rfl, _, rfl, _, rfl, _, rfl, _, rfl, _, rfl, s, a, dr, pt, kn, ns, _, m, ch, _, _, 1 + wd, cut, xs, ys, rfl, Sd, by omega, dd, dok, m12, ch0, ch8, ⟨by omega, by omega⟩, ⟨by omega, by omega⟩, fun r He r0 r1 rm Se ke => ?_⟩
          have ge := gd.keepS Sd ke
          have de := dd.keep ke (by simp [drs]) (by simp [pts]) (by simp [kns])
          obtain ⟨ra, hra, mra, at1, row1⟩ := ge.getZ hi
          refine ⟨_, rfl, _, rfl, tb, _, _, _, rfl, rfl, SqL.of ge.top, at1, _, rfl, ra, _, _, j, rfl, rfl, row1, ?_, ?_⟩
          · unfold ixN
            rw [rowV_len, if_pos (by omega), if_pos (by omega)]
            congr 1; omega
          · have g2 := ge.set (b := j) hra (.int r)
            rw [igSet] at g2
            have ras : ra ≠ s := fun z => (nin hsa) (z ▸ mra)
            have ne : ∀ {z : Addr} {o : HO}, Ha z = some o → z ≠ ra := fun h z => nin h (z ▸ mra)
            refine ⟨⟨_, rfl⟩, (S.setNew (newR ra mra) Se).more (by omega), (kd.trans ke).setNew (newR ra mra), ⟨by rw [upd_ne (ne da.hp)]; exact de.hp, by rw [upd_ne (ne da.hs)]; exact de.hs, by rw [upd_ne (ne da.hk)]; exact de.hk⟩, _, g2, ⟨fun x hx => ?_, fun x y hx hy => ?_⟩, fun x y hx hy => ?_⟩
            · show (if x = i ∧ x = j then r else M x x) = 0
              rw [if_neg (by omega)]; exact md.1 x hx
            · show 0 ≤ (if x = i ∧ y = j then r else M x y) ∧ (if x = i ∧ y = j then r else M x y) ≤ 1000000000
              split
              · exact ⟨r0, r1⟩
              · exact md.2 x y hx hy
            · show (if x = i ∧ y = j then r else M x y) = 0 ∨ (if x = i ∧ y = j then r else M x y) ∈ ks
              split
              · rcases rm with z | z
                · exact .inl z
                · exact (bx r z).2.2
              · exact id' x y hx hy
      · rintro σ Hd ⟨⟨v10, rfl⟩, Sd, kd, dd, M, gd, md, id'⟩
        exact ⟨⟨_, _, rfl⟩, Sd.more (by omega), kd, dd, M, gd, md, id'⟩
    rintro σ Hc ⟨⟨v9, v10, rfl⟩, Sc, kc, _, M, gc, mc, ic⟩
    -- colours
    refine ⟨(by show 1 ≤ sizeLine; decide), fun l1 hl1 => ⟨_, rfl, l1, _, _, rfl, rfl, upd_same, by omega, by omega, by rw [Int.toNat_natCast]; exact Nat.le_trans (show 1 * m ≤ 12 by omega) (by decide), fun pz hpz => ?_⟩⟩
    have el : (List.replicate ((m : Int)).toNat [V.int 0]).flatten = (List.replicate m (0 : Int)).map V.int := by
      rw [Int.toNat_natCast, List.map_replicate]
      generalize m = q
      induction q with
      | zero => rfl
      | succ q ih => rw [List.replicate_succ, List.flatten_cons, ih, List.replicate_succ]; rfl
    rw [el]
    have sd := (Same.new (o := .lst [V.int 0]) hl1).step (o := .lst ((List.replicate m (0 : Int)).map V.int)) hpz
    have hpz' := upd_same (H := upd Hc l1 (.lst [V.int 0])) (a := pz) (o := .lst ((List.replicate m (0 : Int)).map V.int))
    have pzc : Hc pz = none := (Same.new (o := .lst [V.int 0]) hl1).free hpz
    generalize upd (upd Hc l1 (.lst [V.int 0])) pz (.lst ((List.replicate m (0 : Int)).map V.int)) = Hd at sd hpz' ⊢
    have Sd := Sc.same sd
    have kd := kc.trans sd.keep
    have gd := gc.same sd
    refine ⟨_, rfl, rfl, _, rfl, ?_⟩
    refine fmerge (F := fun σ Hx => ∃ (cl : Addr) (cols : List Int) (v12 : Option V), σ = [some (.ref s), some (.int ch), some (.int (m : Int)), some (.ref pk), some (.ref pt), some (.ref kn), some (.int C), some (.ref dr), some (.ref tb), v9, v10, some (.ref cl), v12] ∧ SAt K Hx s a ns (n + 300) ∧ Keep [s] H Hx ∧ Grid Hx tb rs m (IG M) ∧ cl ≠ s ∧ H cl = none ∧ cl ≠ tb ∧ cl ∉ rs ∧ Hx cl = some (.lst (cols.map V.int)) ∧ cols.length = m ∧ ∀ x ∈ cols, 0 ≤ x ∧ x ≤ 1000000000 ∧ x ≠ 7) ?R3 (fun rest => ?mm3) (fun σ Hx ff => ?r3)
    case mm3 =>
      refine ite2 (fun _ => ?pos) (fun _ => ?neg)
      case neg =>
        exact rest _ _ ⟨pz, List.replicate m 0, none, rfl, Sd.more (by omega), kd, gd, Sc.ne pzc, freeK kc Sc pzc, (ne_of_none gc.top pzc).symm, gc.fresh pzc, hpz', List.length_replicate, fun x hx => by rw [(List.mem_replicate.mp hx).2]; decide⟩
      case pos =>
        refine ⟨_, rfl, m, rfl, by omega, by omega, fun cl hcl => lc_range (lo := 0) (n := m) (fun i H' => SAt K H' s a ns (n + 250 + i) ∧ Keep [s] Hd H' ∧ ∃ cols : List Int, H' cl = some (.lst (cols.map V.int)) ∧ cols.length = i ∧ ∀ x ∈ cols, 0 ≤ x ∧ x ≤ 1000000000 ∧ x ≠ 7) ⟨(Sd.same (Same.new hcl)).more (by omega), (Same.new hcl).keep, [], upd_same, rfl, fun x hx => nomatch hx⟩ ?_ ?_⟩
        · rintro i He hi ⟨Se, ke, cols, he, lc', bc⟩
          have cls := Sd.ne hcl
          refine ⟨rfl, _, _, rfl, rfl, ⟨by decide, by decide, by decide⟩, z4, fun l hl => ⟨_, rfl, s, a, ns, _, _, rfl, Se.same (Same.new hl), by omega, by decide, by decide, fun t Hf t0 t1 Sf kf => ?_⟩⟩
          have ls := Se.ne hl
          have hlf := kf _ _ (upd_same (H := He) (a := l) (o := .lst [.int 0, .int 0, .int 5, .int (10 ^ (9 : Int).toNat)])) (by simp [ls])
          have kef : Keep [s] He Hf := (Same.new hl).keep.trans kf
          obtain ⟨q, eq, q0, q1, q7⟩ : ∃ q : Int, atI [V.int 0, .int 0, .int 5, .int (10 ^ (9 : Int).toNat)] t = some (.int q) ∧ 0 ≤ q ∧ q ≤ 1000000000 ∧ q ≠ 7 := by
            obtain rfl | rfl | rfl | rfl : t = 0 ∨ t = 1 ∨ t = 2 ∨ t = 3 := by omega
            all_goals exact ⟨_, rfl, by decide, by decide, by decide⟩
          refine ⟨l, _, _, .int q, rfl, rfl, SqL.of hlf, eq, _, kef _ _ he (by simp [cls]), by rw [List.length_map, lc']; exact small1000 (by omega), (Sd.setNew hcl Sf).more (by omega), (ke.trans kef).setNew hcl, cols ++ [q], by rw [upd_same, List.map_append]; rfl, by rw [List.length_append, lc']; rfl, fun x hx => ?_⟩
          rcases List.mem_append.mp hx with z | z
          · exact bc x z
          · rw [List.mem_singleton.mp z]; exact ⟨q0, q1, q7⟩
        · rintro He ⟨Se, ke, cols, he, lc', bc⟩
          exact rest _ _ ⟨cl, cols, _, rfl, Se.more (by omega), kd.trans ke, gd.keepS Sd ke, Sd.ne hcl, freeK kd Sd hcl, (ne_of_none gd.top hcl).symm, gd.fresh hcl, he, lc', bc⟩
    case r3 =>
    obtain ⟨cl, cols, v12, rfl, Se, ke, ge, cls, clH, clt, clr, hcl, lc', bc⟩ := ff
    refine fmerge (F := fun σ Hx => ∃ cols : List Int, σ = [some (.ref s), some (.int ch), some (.int (m : Int)), some (.ref pk), some (.ref pt), some (.ref kn), some (.int C), some (.ref dr), some (.ref tb), v9, v10, some (.ref cl), v12] ∧ SAt K Hx s a ns (n + 400) ∧ Keep [s] H Hx ∧ Grid Hx tb rs m (IG M) ∧ Hx cl = some (.lst (cols.map V.int)) ∧ cols.length = m ∧ ∀ x ∈ cols, 0 ≤ x ∧ x ≤ 1000000000 ∧ x ≠ 7) ?R4 (fun rest => ?mm4) (fun σ Hx ff => ?r4)
    case mm4 =>
      refine ⟨_, rfl, _, _, rfl, rfl, _, rfl, ?_⟩
      refine ite2 (fun hpos => ?pos) (fun _ => ?neg)
      case neg =>
        refine iteF ?_
        exact rest _ _ ⟨cols, rfl, Se.more (by omega), ke, ge, hcl, lc', bc⟩
      case pos =>
        have m0 : 0 < m := by have := of_decide_eq_true hpos; omega
        refine ⟨_, rfl, s, a, ns, _, _, rfl, Se, by omega, by decide, by decide, fun t Hf t0 t1 Sf kf => ⟨rfl, _, rfl, ?_⟩⟩
        have hclf := kf _ _ hcl (by simp [cls])
        refine ite2 (fun _ => ?pos2) (fun _ => ?neg2)
        case neg2 => exact rest _ _ ⟨cols, rfl, Sf.more (by omega), ke.trans kf, ge.keepS Se kf, hclf, lc', bc⟩
        case pos2 =>
          refine ⟨_, _, rfl, rfl, ⟨by decide, by decide, by decide⟩, z2, fun l hl => ⟨_, rfl, s, a, ns, _, _, rfl, Sf.same (Same.new hl), by omega, by decide, by decide, fun t2 Hg t20 t21 Sg kg => ?_⟩⟩
          have ls := Sf.ne hl
          have hlg := kg _ _ (upd_same (H := Hf) (a := l) (o := .lst [.int 5, .int (10 ^ (9 : Int).toNat)])) (by simp [ls])
          have kfg : Keep [s] Hf Hg := (Same.new hl).keep.trans kg
          obtain ⟨q, eq, q0, q1, q7⟩ : ∃ q : Int, atI [V.int 5, .int (10 ^ (9 : Int).toNat)] t2 = some (.int q) ∧ 0 ≤ q ∧ q ≤ 1000000000 ∧ q ≠ 7 := by
            obtain rfl | rfl : t2 = 0 ∨ t2 = 1 := by omega
            all_goals exact ⟨_, rfl, by decide, by decide, by decide⟩
          refine ⟨l, _, _, .int q, rfl, rfl, SqL.of hlg, eq, _, rfl, _, rfl, _, rfl, s, a, ns, _, _, rfl, Sg, by omega, by omega, by omega, fun t3 Hh t30 t31 Sh kh => ?_⟩
          have kk := (kf.trans kfg).trans kh
          have hclh := kk _ _ hcl (by simp [cls])
          refine ⟨cl, _, _, t3.toNat, rfl, rfl, hclh, ?_, ?_⟩
          · unfold ixN
            rw [List.length_map, lc', if_pos t30, if_pos t31]
          · have gh := ge.keepS Se kk
            refine rest _ _ ⟨cols.set t3.toNat q, rfl, (S.setNew clH Sh).more (by omega), (ke.trans kk).setNew clH, ?_, by rw [upd_same, List.map_set], by rw [List.length_set]; exact lc', fun x hx => ?_⟩
            · exact gh.keep (ex := [cl]) (fun b o e ne => by rw [upd_ne fun z => ne (List.mem_singleton.mpr z)]; exact e) (by simp [clt.symm]) (fun r hr => by simp; exact fun z => clr (z ▸ hr))
            · rcases List.mem_or_eq_of_mem_set hx with z | z
              · exact bc x z
              · rw [z]; exact ⟨q0, q1, q7⟩
    case r4 =>
    obtain ⟨cols, rfl, Sf, kf, gf, hcl, lc', bc⟩ := ff
    refine ⟨_, rfl, cl, _, rfl, .inl ⟨SqL.of hcl, fun tc htc => ⟨_, rfl, z2, fun p hp => ?_⟩⟩⟩
    have s1 := Same.new (o := .tup (cols.map V.int)) htc
    have s2 := Same.new (o := .lst [.ref tc, .ref tb]) hp
    exact fin p cols M _ ⟨tc, tb, rs, upd_same, s2 _ _ upd_same, gf.same (s1.trans s2)⟩ ⟨lc', fun x hx => ⟨(bc x hx).1, (bc x hx).2.1⟩, mc⟩ (fun x hx => (bc x hx).2.2) ic ((Sf.same (s1.trans s2)).more (by omega)) (kf.trans (s1.trans s2).keep)
end
end Kx
namespace Kx
open PySem L2
def rowE (n : Nat) (M : Nat → Nat → Int) (a j : Nat) : List R3 := ((List.range j).filter fun b => decide (0 < M a b)).map fun b => rowM M a b
def allR (n : Nat) (M : Nat → Nat → Int) (i : Nat) : List R3 := (List.range i).flatMap fun a => rowE n M a n
theorem rowE_succ {n : Nat} {M : Nat → Nat → Int} {a j : Nat} : rowE n M a (j + 1) = if 0 < M a j then rowE n M a j ++ [rowM M a j] else rowE n M a j := by
  unfold rowE
  rw [List.range_succ, List.filter_append, List.map_append]
  by_cases h : 0 < M a j
  · rw [if_pos h, List.filter_cons_of_pos (by simpa using h)]; rfl
  · rw [if_neg h, List.filter_cons_of_neg (by simpa using h)]; simp
theorem allR_succ {n : Nat} {M : Nat → Nat → Int} {i : Nat} : allR n M (i + 1) = allR n M i ++ rowE n M i n := by
  unfold allR
  rw [List.range_succ, List.flatMap_append]
  simp
theorem mem_allR {n : Nat} {M : Nat → Nat → Int} {r : R3} : r ∈ allR n M n ↔ ∃ a b : Nat, a < n ∧ b < n ∧ 0 < M a b ∧ r = rowM M a b := by
  unfold allR rowE
  rw [List.mem_flatMap]
  constructor
  · rintro ⟨a, ha, hr⟩
    obtain ⟨b, hb, rfl⟩ := List.mem_map.mp hr
    have := List.mem_filter.mp hb
    exact ⟨a, b, List.mem_range.mp ha, List.mem_range.mp this.1, of_decide_eq_true this.2, rfl⟩
  · rintro ⟨a, b, ha, hb, h, rfl⟩
    exact ⟨a, List.mem_range.mpr ha, List.mem_map.mpr ⟨b, List.mem_filter.mpr ⟨List.mem_range.mpr hb, decide_eq_true h⟩, rfl⟩⟩
theorem nodup_allR {n : Nat} {M : Nat → Nat → Int} : ∀ i, ((allR n M i).map prR).Nodup
  | 0 => by simp [allR]
  | i + 1 => by
    rw [allR_succ, List.map_append, List.nodup_append]
    refine ⟨nodup_allR i, ?_, fun x hx y hy e => ?_⟩
    · unfold rowE
      rw [List.map_map, List.nodup_iff_pairwise_ne, List.pairwise_map]
      refine (List.nodup_iff_pairwise_ne.mp (List.nodup_range.sublist List.filter_sublist)).imp fun {a b} ne e => ne ?_
      have := congrArg Prod.snd e
      have : (0 : Int) + a = 0 + b := this
      omega
    · obtain ⟨r, hr, rfl⟩ := List.mem_map.mp hx
      obtain ⟨r', hr', rfl⟩ := List.mem_map.mp hy
      unfold allR at hr
      obtain ⟨b, hb, hr⟩ := List.mem_flatMap.mp hr
      unfold rowE at hr hr'
      obtain ⟨a, _, rfl⟩ := List.mem_map.mp hr
      obtain ⟨a', _, rfl⟩ := List.mem_map.mp hr'
      have := congrArg Prod.fst e
      have : (0 : Int) + b = 0 + i := this
      have := List.mem_range.mp hb
      omega
theorem allR_perm {n : Nat} {M : Nat → Nat → Int} : (allR n M n).Perm (allE n M n) := by
  have nd : ∀ {l : List R3}, (l.map prR).Nodup → l.Nodup := fun {l} h => by
    induction l with
    | nil => exact List.nodup_nil
    | cons x l ih =>
      rw [List.map_cons, List.nodup_cons] at h
      exact List.nodup_cons.mpr ⟨fun z => h.1 (List.mem_map.mpr ⟨x, z, rfl⟩), ih h.2⟩
  exact (List.perm_ext_iff_of_nodup (nd (nodup_allR n)) (nd (nodup_allE n))).mpr fun r => mem_allR.trans mem_allE.symm
theorem rowE_len (n : Nat) (M : Nat → Nat → Int) (b j : Nat) : (rowE n M b j).length ≤ j := by
  unfold rowE
  rw [List.length_map]
  exact Nat.le_trans (List.length_filter_le _ _) (by rw [List.length_range]; exact Nat.le_refl _)
theorem allR_len {n : Nat} (M : Nat → Nat → Int) : ∀ i, (allR n M i).length ≤ i * n
  | 0 => by simp [allR]
  | i + 1 => by
    rw [allR_succ, List.length_append, Nat.add_mul, Nat.one_mul]
    exact Nat.add_le_add (allR_len M i) (rowE_len n M i n)
def sp_fmade (c : Addr) : Sp := fun vs H Q _ => ∃ (p : Addr) (m : Nat) (cols : List Int) (M : Nat → Nat → Int), vs = [.ref p] ∧ PairAt H p m cols M ∧ POk m cols M ∧ m ≤ 12 ∧
  ∀ (web : Addr) (E : List R3) (H' : Hp), Same H H' → WebAt c H' web cols E → WOk cols E → (∀ a b : Nat, a < m → b < m → mkR E a b = M a b) → SrtR E → Q (.ref web) H'
section
variable {P : Program} {w : World} {K : PySem.W.Frag} {mg : Str → Option Value} {base : Heap} {c : Addr}
theorem sc_fmade : FnScope ["_law_one", "_law_colours", "_law_table", "_law_rows_here", "_law_a", "_law_b"] ["_law_one"] (defScope s_fmade) := ⟨rfl, rfl, rfl, by decide +kernel, rfl, by decide +kernel, by decide +kernel⟩
set_option maxHeartbeats 4000000 in
theorem ok_fmade {f : Addr} {fd : FuncData} (F : Fun K "_law_made" "_law_made" s_fmade f fd) (T : Txt mg) (W : WebC K mg c) (M_Web : MkF P w K mg base "Web" c 6 ["self", "colours", "arrows"] [] (sp_Winit K c)) : FnOk P w K mg base CX0 8 f fd ["_law_one"] (sp_fmade c) := by
  refine F.ok sc_fmade (fun vs H Q E h => ?_) (fun cdv A outer s H vs Q E hr h => ?_)
  · obtain ⟨p, m, cols, M, rfl, _⟩ := h
    rfl
  · have nd := sc_fmade.nd
    obtain ⟨p, m, cols, M, rfl, pa, ⟨cl, cb, mo⟩, m12, fin⟩ := h
    obtain ⟨tc, tb, rs, hp, hc, gm⟩ := id pa
    refine ⟨_, (pss_cons (ps_asg (pv 0) (pg_lstK (K := K) rfl (pgs_cons (pg_name (i := 1) nd rfl (Or.inl rfl)) (pgs_cons (pg_name (i := 2) nd rfl (Or.inr rfl)) pgs_nil))))
      (pss_cons (ps_set (i := 3) nd rfl (Or.inl rfl) (pe_lst pa_nil))
      (pss_cons (ps_for PassesOwn.never rfl (pi_range1 (by rfl) T.range (pa_cons (pe_callB (call_lenK (K := K)) (by rfl) T.len (by decide +kernel) (pa_cons (pv 1) pa_nil)) pa_nil)) (pg_name (i := 4) nd rfl (Or.inr rfl))
      (pss_one (ps_set (i := 3) nd rfl (Or.inl rfl) (pe_op op_cat (pv 3) (pe_lc (own := [("_law_b", 5)]) (g := gName 5) (by rfl) nd (pi_range1 (by rfl) T.range (pa_cons (pe_callB (call_lenK (K := K)) (by rfl) T.len (by decide +kernel) (pa_cons (pv 1) pa_nil)) pa_nil)) (blkOk_by (own := [("_law_b", 5)]) (N := ["_law_one", "_law_colours", "_law_table", "_law_rows_here", "_law_a", "_law_b"]) (sc := defScope s_fmade) (by decide +kernel)) (fun _ _ _ _ _ => (pg_name (i := 5) nd rfl (Or.inl rfl))) (fun _ _ _ _ _ => pts_one (pt_cmpR op_gt (pe_ix (ix_listK (K := K)) (pe_ix (ix_listK (K := K)) (pv 2) (pv 4) (fun _ _ => rfl)) (pv 5) (fun _ _ => rfl)) pe_int (nomark _))) (fun _ _ _ _ _ => (pe_tup (pa_cons (pv 4) (pa_cons (pv 5) (pa_cons (pe_ix (ix_listK (K := K)) (pe_ix (ix_listK (K := K)) (pv 2) (pv 4) (fun _ _ => rfl)) (pv 5) (fun _ _ => rfl)) pa_nil))))))))))
      (pss_one (ps_ret (pe_mk M_Web hr (pa_cons (pv 1) (pa_cons (pe_callTy (call_tupleK (K := K)) (by rfl) T.tuple (by decide +kernel) (pa_cons (pv 3) pa_nil)) pa_nil)))))))), ?_⟩
    have ecl : ((cols.map V.int).length : Int) = (m : Int) := by rw [List.length_map, cl]
    have nn : m * m ≤ 144 := Nat.mul_le_mul m12 m12
    refine ⟨_, rfl, p, _, rfl, SqL.of hp, rfl, _, _, rfl, _, _, rfl, rfl, ?_⟩
    refine ⟨Nat.zero_le _, fun al hal => ?_⟩
    have s0 := Same.new (o := .lst []) hal
    refine ⟨_, rfl, tc, _, rfl, .inr (SqT.of (s0 _ _ hc)), ?_⟩
    rw [ecl]
    refine ⟨m, rfl, by omega, by omega, for_range (lo := 0) (n := m) (fun i σ H' => (∃ al v4, σ = [some (.ref p), some (.ref tc), some (.ref tb), some (.ref al), v4, none] ∧ ∃ ts, H' al = some (.lst (ts.map V.ref)) ∧ Paired (RowAt H') ts (allR m M i)) ∧ Same H H') ⟨⟨al, _, rfl, [], upd_same, by rw [show allR m M 0 = [] from rfl]; exact .nil⟩, s0⟩ ?_ ?_⟩
    · rintro i σ H1 hi ⟨⟨al, v4, rfl, ts, hal1, prd⟩, s1⟩
      refine ⟨_, rfl, _, rfl, tc, _, rfl, .inr (SqT.of (s1 _ _ hc)), ?_⟩
      rw [ecl]
      refine ⟨m, rfl, by omega, by omega, fun D hD => lc_range (lo := 0) (n := m) (fun j H' => Same H1 H' ∧ ∃ us, H' D = some (.lst (us.map V.ref)) ∧ Paired (RowAt H') us (rowE m M i j)) ⟨Same.new hD, [], upd_same, by rw [show rowE m M i 0 = [] from rfl]; exact .nil⟩ ?_ ?_⟩
      · rintro j H2 hj ⟨s2, us, hD2, prd2⟩
        have gm2 := gm.same (s1.trans s2)
        obtain ⟨r, er, mr, atr, rowr⟩ := gm2.getZ hi
        have lus : us.length ≤ j := by rw [Paired.length prd2]; exact rowE_len m M i j
        refine ⟨rfl, _, rfl, _, rfl, tb, _, _, _, rfl, rfl, SqL.of gm2.top, atr, _, rfl, r, _, _, _, rfl, rfl, SqL.of rowr, rowV_atZ hj, _, _, rfl, rfl, _, rfl, ?_⟩
        rw [rowE_succ]
        by_cases h : 0 < M i j
        · rw [decide_eq_true h, if_pos h]
          refine ⟨_, rfl, _, rfl, _, rfl, _, rfl, tb, _, _, _, rfl, rfl, SqL.of gm2.top, atr, _, rfl, r, _, _, _, rfl, rfl, SqL.of rowr, rowV_atZ hj, (by show 3 ≤ sizeLine; decide), fun l hl => ?_⟩
          have s3 := Same.new (o := .tup [.int (0 + (i : Int)), .int (0 + (j : Int)), .int (M i j)]) hl
          have hl3 := upd_same (H := H2) (a := l) (o := .tup [.int (0 + (i : Int)), .int (0 + (j : Int)), .int (M i j)])
          generalize upd H2 l (.tup [.int (0 + (i : Int)), .int (0 + (j : Int)), .int (M i j)]) = H3 at s3 hl3
          have hD3 := s3 _ _ hD2
          have lD : l ≠ D := fun z => by rw [z, hD2] at hl; cases hl
          refine ⟨_, hD3, by rw [List.length_map]; exact small1000 (by omega), same_set2 (s2.trans s3) hD, us ++ [l], by rw [upd_same, List.map_append]; rfl, ?_⟩
          have up : ∀ t r, t ≠ D → RowAt H3 t r → RowAt (upd H3 D (.lst (us.map V.ref ++ [.ref l]))) t r := fun t r ne z => by
            unfold RowAt
            rw [upd_ne ne]; exact z
          refine paired_app ?_ (.cons (up l _ lD (.inr hl3)) .nil)
          refine Paired.mapP prd2 fun t r z => ?_
          by_cases e : t = D
          · exfalso
            subst e
            rcases z with z | z
            · rw [hD2] at z
              obtain ⟨x, y, m⟩ := r
              cases us with
              | nil => cases z
              | cons u us => injection z with z; injection z with z; injection z with z1 _; cases z1
            · rw [hD2] at z; cases z
          · exact up t r e (z.same s3)
        · rw [decide_eq_false h, if_neg h]
          exact ⟨s2, us, hD2, prd2⟩
      · rintro H2 ⟨s2, us, hD2, prd2⟩
        have l1 : ts.length ≤ 144 := by
          rw [Paired.length prd]
          exact Nat.le_trans (allR_len M i) (Nat.le_trans (Nat.mul_le_mul_right m (Nat.le_of_lt hi)) nn)
        have l2 : us.length ≤ 12 := by rw [Paired.length prd2]; exact Nat.le_trans (rowE_len m M i m) m12
        refine ⟨al, D, _, _, rfl, rfl, s2 _ _ hal1, hD2, by rw [List.length_map, List.length_map]; exact Nat.le_of_lt (small1000 (by omega)), fun p hp => ⟨⟨p, _, rfl, ts ++ us, by rw [upd_same, List.map_append], ?_⟩, (s1.trans s2).step hp⟩⟩
        rw [allR_succ]
        have s3 := Same.new (o := .lst (ts.map V.ref ++ us.map V.ref)) hp
        exact paired_app (Paired.mapP prd fun t r z => (z.same s2).same s3) (Paired.mapP prd2 fun t r z => z.same s3)
    rintro σ H1 ⟨⟨al, v4, rfl, ts, hal1, prd⟩, s1⟩
    refine ⟨_, rfl, _, rfl, al, _, rfl, .inl ⟨SqL.of hal1, fun tl htl => ?_⟩⟩
    have s2 := Same.new (o := .tup (ts.map V.ref)) htl
    have htl2 := upd_same (H := H1) (a := tl) (o := .tup (ts.map V.ref))
    generalize upd H1 tl (.tup (ts.map V.ref)) = H2 at s2 htl2 ⊢
    intro x dx hx hdx hne
    have sN := sameNew2 (c := c) hx hdx
    have wok : WOk cols (allR m M m) := (allE_ok mo cl m12 cb).perm allR_perm
    refine ⟨x, dx, tc, tl, cols, ts, allR m M m, rfl, upd_same, .inr (sN _ _ ((s1.trans s2) _ _ hc)), ⟨.inr (SqT.of (sN _ _ htl2)), Paired.mapP prd fun t r z => (z.same s2).same sN⟩, wok, fun E' H' pE' sE' k wb => ⟨rfl, ?_⟩⟩
    exact fin x E' H' ((s1.trans s2).trans (sameMade hx hdx k)) wb (wok.perm pE') (fun a b ha hb => mkR_allE mo (pE'.trans allR_perm) ha hb) sE'
end
end Kx
namespace Kx
open PySem L2
def sp_frenamed : Sp := fun vs H Q _ => ∃ (p q : Addr) (m : Nat) (cols φ : List Int) (M : Nat → Nat → Int), vs = [.ref p, .ref q] ∧ PairAt H p m cols M ∧ POk m cols M ∧ TI H q φ ∧ Nm.IsN m φ ∧ m ≤ 12 ∧
  ∀ (p' : Addr) (cols' : List Int) (M' : Nat → Nat → Int) (H' : Hp), Same H H' → PairAt H' p' m cols' M' → POk m cols' M' → AlgC m (fφ φ) cols cols' → Alg m (fφ φ) M M' → Q (.ref p') H'
section
variable {P : Program} {w : World} {K : PySem.W.Frag} {mg : Str → Option Value} {base : Heap}
theorem sc_frenamed : FnScope ["_law_one", "_law_naming", "_law_colours", "_law_table", "_law_a", "_law_b", "_law_row"] ["_law_one", "_law_naming"] (defScope s_frenamed) := ⟨rfl, rfl, rfl, by decide +kernel, rfl, by decide +kernel, by decide +kernel⟩
set_option maxHeartbeats 4000000 in
theorem ok_frenamed {f : Addr} {fd : FuncData} (F : Fun K "_law_renamed" "_law_renamed" s_frenamed f fd) (T : Txt mg) : FnOk P w K mg base CX0 1 f fd ["_law_one", "_law_naming"] sp_frenamed := by
  refine F.ok sc_frenamed (fun vs H Q E h => ?_) (fun cdv A outer s H vs Q E hr h => ?_)
  · obtain ⟨p, q, m, cols, φ, M, rfl, _⟩ := h
    rfl
  · have nd := sc_frenamed.nd
    obtain ⟨p, q, m, cols, φ, M, rfl, pa, ⟨cl, cb, mo⟩, hq, iN, m12, fin⟩ := h
    obtain ⟨tc, tb, rs, hp, hc, gm⟩ := id pa
    refine ⟨_, (pss_cons (ps_set (i := 2) nd rfl (Or.inl rfl) (pe_callTy (call_listK (K := K)) (by rfl) T.list (by decide +kernel) (pa_cons (pe_ix (ix_listK (K := K)) (pv 0) pe_int (fun _ _ => rfl)) pa_nil)))
      (pss_cons (ps_setLc (i := 3) (own := [("_law_row", 6)]) (g := gName 6) (by rfl) nd rfl rfl (sw_true rfl rfl rfl (by decide +kernel)) (pi_listK (K := K) (pe_ix (ix_listK (K := K)) (pv 0) pe_int (fun _ _ => rfl))) (blkOk_by (own := [("_law_row", 6)]) (N := ["_law_one", "_law_naming", "_law_colours", "_law_table", "_law_a", "_law_b", "_law_row"]) (sc := defScope s_frenamed) (by decide +kernel)) (fun _ _ _ _ _ => (pg_name (i := 6) nd rfl (Or.inl rfl))) (fun _ _ _ _ _ => pts_nil) (fun _ _ _ _ _ => (pe_callTy (call_listK (K := K)) (by rfl) T.list (by decide +kernel) (pa_cons (pv 6) pa_nil))))
      (pss_cons (ps_for PassesOwn.never rfl (pi_range1 (by rfl) T.range (pa_cons (pe_callB (call_lenK (K := K)) (by rfl) T.len (by decide +kernel) (pa_cons (pv 1) pa_nil)) pa_nil)) (pg_name (i := 4) nd rfl (Or.inl rfl))
      (pss_cons (ps_asg (pe_ix (ix_tupK (K := K)) (pe_ix (ix_listK (K := K)) (pv 0) pe_int (fun _ _ => rfl)) (pv 4) (fun _ _ => rfl)) (pg_sub (pv 2) (pe_ix (ix_tupK (K := K)) (pv 1) (pv 4) (fun _ _ => rfl)) set_list))
      (pss_one (ps_for PassesOwn.never rfl (pi_range1 (by rfl) T.range (pa_cons (pe_callB (call_lenK (K := K)) (by rfl) T.len (by decide +kernel) (pa_cons (pv 1) pa_nil)) pa_nil)) (pg_name (i := 5) nd rfl (Or.inl rfl))
      (pss_one (ps_asg (pe_ix (ix_listK (K := K)) (pe_ix (ix_listK (K := K)) (pe_ix (ix_listK (K := K)) (pv 0) pe_int (fun _ _ => rfl)) (pv 4) (fun _ _ => rfl)) (pv 5) (fun _ _ => rfl)) (pg_sub (pe_ix (ix_listK (K := K)) (pv 3) (pe_ix (ix_tupK (K := K)) (pv 1) (pv 4) (fun _ _ => rfl)) (fun _ _ => rfl)) (pe_ix (ix_tupK (K := K)) (pv 1) (pv 5) (fun _ _ => rfl)) set_list)))))))
      (pss_one (ps_ret (pe_lst (pa_cons (pe_callTy (call_tupleK (K := K)) (by rfl) T.tuple (by decide +kernel) (pa_cons (pv 2) pa_nil)) (pa_cons (pv 3) pa_nil)))))))), ?_⟩
    have lφ := iN.length
    have N := nam_of m12 iN
    refine ⟨_, rfl, p, _, _, _, rfl, rfl, SqL.of hp, at_of (j := 0) rfl rfl, tc, _, rfl, .inr (SqT.of hc), fun cl0 hcl => ?_⟩
    have s1 := Same.new (o := .lst (cols.map V.int)) hcl
    have hcl1 := upd_same (H := H) (a := cl0) (o := .lst (cols.map V.int))
    generalize upd H cl0 (.lst (cols.map V.int)) = H1 at s1 hcl1 ⊢
    have gm1 := gm.same s1
    refine ⟨_, rfl, p, _, _, _, rfl, rfl, SqL.of (s1 _ _ hp), at_of (j := 1) rfl rfl, tb, rfl, ⟨_, SqL.of gm1.top⟩, fun D hD => lc_list (K := K) (a := tb) (xs := rs.map V.ref) (fun i H' => Same H1 H' ∧ ∃ ts : List Addr, H' D = some (.lst (ts.map V.ref)) ∧ ts.length = i ∧ ts.Nodup ∧ D ∉ ts ∧ (∀ r ∈ ts, H1 r = none) ∧ ∀ (a : Nat) (r : Addr), ts[a]? = some r → H' r = some (.lst (rowV m (IG M a))))
      ⟨Same.new hD, [], upd_same, rfl, List.nodup_nil, by simp, (fun r h => nomatch h), fun a r h => by simp at h⟩ (fun i H' _ h => SqL.of (h.1 _ _ gm1.top)) ?_ ?_⟩
    · rintro i x H2 hx ⟨s2, ts, hD2, lt, ndt, kt, newt, rows⟩
      rw [List.getElem?_map] at hx
      obtain ⟨r, hr', rfl⟩ := Option.map_eq_some_iff.mp hx
      have hi := (List.getElem?_eq_some_iff.mp hr').1
      have lrs := gm.len
      have hrow := s2 _ _ (gm1.row i r hr')
      refine ⟨rfl, _, rfl, r, _, rfl, .inl (SqL.of hrow), fun l hl => ?_⟩
      have s3 := Same.new (o := .lst (rowV m (IG M i))) hl
      have hl3 := upd_same (H := H2) (a := l) (o := .lst (rowV m (IG M i)))
      have lD : D ≠ l := ne_of_none hD2 hl
      generalize upd H2 l (.lst (rowV m (IG M i))) = H3 at s3 hl3
      refine ⟨_, s3 _ _ hD2, by rw [List.length_map, lt]; exact small1000 (by omega), same_set2 (s2.trans s3) hD, ts ++ [l], by rw [upd_same, List.map_append]; rfl, by rw [List.length_append, lt]; rfl, ?_, ?_, ?_, ?_⟩
      · refine List.nodup_append.mpr ⟨ndt, by simp, fun a ha b hb e => ?_⟩
        rw [List.mem_singleton] at hb
        obtain ⟨k, hk⟩ := List.mem_iff_getElem?.mp ha
        have := rows k a hk
        rw [e, hb, hl] at this
        cases this
      · intro z
        rcases List.mem_append.mp z with z | z
        · exact kt z
        · exact lD (List.mem_singleton.mp z)
      · intro x hx
        rcases List.mem_append.mp hx with z | z
        · exact newt x z
        · rw [List.mem_singleton.mp z]; exact s2.free hl
      · intro a x ha
        by_cases ca : a < ts.length
        · rw [List.getElem?_append_left ca] at ha
          have hne : x ≠ D := fun z => kt (by rw [← z]; exact List.mem_of_getElem? ha)
          rw [upd_ne hne]
          exact s3 _ _ (rows a x ha)
        · rw [List.getElem?_append_right (by omega)] at ha
          have ea : a = ts.length := by
            have := (List.getElem?_eq_some_iff.mp ha).1
            simp at this
            omega
          rw [ea, Nat.sub_self] at ha
          cases ha
          rw [upd_ne lD.symm, hl3, ea, lt]
    rintro H2 ⟨s2, ts, hD2, lt, ndt, kt, newt, rows⟩
    have lrs := gm.len
    rw [List.length_map, lrs] at lt
    have g2 : Grid H2 D ts m (IG M) := ⟨hD2, lt, ndt, kt, rows⟩
    have hcl2 := s2 _ _ hcl1
    have s02 := s1.trans s2
    have clD : cl0 ≠ D := ne_of_none hcl1 hD
    have clt : cl0 ∉ ts := fun z => by rw [newt _ z] at hcl1; cases hcl1
    have DH : H D = none := s1.free hD
    have tH : ∀ r ∈ ts, H r = none := fun r hr => s1.free (newt r hr)
    have en : ((φ.map V.int).length : Int) = (m : Int) := by rw [List.length_map, lφ]
    have atφ : ∀ {x : Nat}, x < m → Rg.In m (fφ φ x) ∧ atI (φ.map V.int) (0 + (x : Int)) = some (V.int (fφ φ (x : Int))) := fun {x} hx => by
      have hi : Rg.In m (x : Int) := ⟨by omega, by omega⟩
      refine ⟨N.inn _ hi, at_of (j := x) (by omega) ?_⟩
      have := fφ_get iN hi
      rw [Int.toNat_natCast] at this
      rw [List.getElem?_map, this]; rfl
    have inj : ∀ {x y : Nat}, x < m → y < m → (fφ φ (x : Int)).toNat = (fφ φ (y : Int)).toNat → x = y := fun {x y} hx hy e => by
      have i1 := (atφ hx).1.1
      have i2 := (atφ hy).1.1
      have := N.inj (x : Int) (y : Int) ⟨by omega, by omega⟩ ⟨by omega, by omega⟩ (by omega)
      omega
    refine ⟨_, rfl, q, _, rfl, .inr (SqT.of (s02 _ _ hq)), ?_⟩
    rw [en]
    refine ⟨m, rfl, by omega, by omega, for_range (lo := 0) (n := m) (fun i σ H' => (∃ v4 v5, σ = [some (.ref p), some (.ref q), some (.ref cl0), some (.ref D), v4, v5, none]) ∧ Same H H' ∧ ∃ (cs : List Int) (M' : Nat → Nat → Int), H' cl0 = some (.lst (cs.map V.int)) ∧ POk m cs M' ∧ (∀ x : Nat, x < i → cs.getD (fφ φ (x : Int)).toNat 0 = cols.getD x 0) ∧ Grid H' D ts m (IG M') ∧ ∀ x y : Nat, x < i → y < m → M' (fφ φ (x : Int)).toNat (fφ φ (y : Int)).toNat = M x y)
      ⟨⟨_, _, rfl⟩, s02, cols, M, hcl2, ⟨cl, cb, mo⟩, fun x hx => absurd hx (Nat.not_lt_zero x), g2, fun x y hx => absurd hx (Nat.not_lt_zero x)⟩ ?_ ?_⟩
    · rintro i σ H3 hi ⟨⟨v4, v5, rfl⟩, s3, cs, M', hcl3, ⟨lc', bc, mc⟩, ac, g3, am⟩
      obtain ⟨⟨f0, f1⟩, fa⟩ := atφ hi
      have ci : cols[i]? = some (cols[i]'(by omega)) := List.getElem?_eq_getElem (by omega)
      refine ⟨_, rfl, p, _, _, _, rfl, rfl, SqL.of (s3 _ _ hp), at_of (j := 0) rfl rfl, _, rfl, tc, _, _, .int (cols.getD i 0), rfl, rfl, SqT.of (s3 _ _ hc), at_of (j := i) (by omega) (by rw [List.getElem?_map, List.getD_eq_getElem?_getD, ci]; rfl), _, rfl, _, rfl, _, rfl, q, _, _, _, rfl, rfl, SqT.of (s3 _ _ hq), fa, cl0, _, _, (fφ φ (i : Int)).toNat, rfl, rfl, hcl3, ?_, ?_⟩
      · unfold ixN
        rw [List.length_map, lc', if_pos f0, if_pos f1]
      have s4 : Same H (upd H3 cl0 (.lst ((cs.map V.int).set (fφ φ (i : Int)).toNat (.int (cols.getD i 0))))) := fun b o e => by rw [upd_ne (ne_of_none e hcl)]; exact s3 _ _ e
      have hcl4 : upd H3 cl0 (.lst ((cs.map V.int).set (fφ φ (i : Int)).toNat (.int (cols.getD i 0)))) cl0 = some (.lst ((cs.set (fφ φ (i : Int)).toNat (cols.getD i 0)).map V.int)) := by rw [upd_same, List.map_set]
      have g4 : Grid (upd H3 cl0 (.lst ((cs.map V.int).set (fφ φ (i : Int)).toNat (.int (cols.getD i 0))))) D ts m (IG M') := g3.keep (ex := [cl0]) (fun b o e ne => by rw [upd_ne fun z => ne (List.mem_singleton.mpr z)]; exact e) (by simp [clD.symm]) (fun r hr => by simp; exact fun z => clt (z ▸ hr))
      generalize upd H3 cl0 (.lst ((cs.map V.int).set (fφ φ (i : Int)).toNat (.int (cols.getD i 0)))) = H4 at s4 hcl4 g4 ⊢
      have cb4 : ∀ x ∈ cs.set (fφ φ (i : Int)).toNat (cols.getD i 0), 0 ≤ x ∧ x ≤ 1000000000 := fun x hx => by
        rcases List.mem_or_eq_of_mem_set hx with z | z
        · exact bc x z
        · rw [z, List.getD_eq_getElem?_getD, ci]; exact cb _ (List.mem_of_getElem? ci)
      have ac4 : ∀ x : Nat, x < i + 1 → (cs.set (fφ φ (i : Int)).toNat (cols.getD i 0)).getD (fφ φ (x : Int)).toNat 0 = cols.getD x 0 := fun x hx => by
        rw [List.getD_eq_getElem?_getD]
        by_cases e : x = i
        · rw [e, List.getElem?_set_self (by omega)]; rfl
        · rw [List.getElem?_set_ne (fun z => e (inj (show x < m by omega) hi z.symm)), ← List.getD_eq_getElem?_getD]
          exact ac x (by omega)
      refine ⟨_, rfl, q, _, rfl, .inr (SqT.of (s4 _ _ hq)), ?_⟩
      rw [en]
      refine ⟨m, rfl, by omega, by omega, for_range (lo := 0) (n := m) (fun j σ H' => (∃ v5, σ = [some (.ref p), some (.ref q), some (.ref cl0), some (.ref D), some (.int (0 + (i : Int))), v5, none]) ∧ Same H H' ∧ H' cl0 = some (.lst ((cs.set (fφ φ (i : Int)).toNat (cols.getD i 0)).map V.int)) ∧ ∃ M' : Nat → Nat → Int, MOk m M' ∧ Grid H' D ts m (IG M') ∧ ∀ x y : Nat, (x < i ∧ y < m ∨ x = i ∧ y < j) → M' (fφ φ (x : Int)).toNat (fφ φ (y : Int)).toNat = M x y)
        ⟨⟨_, rfl⟩, s4, hcl4, M', mc, g4, fun x y h => by rcases h with ⟨a, b⟩ | ⟨_, b⟩; exact am x y a b; exact absurd b (Nat.not_lt_zero y)⟩ ?_ ?_⟩
      · rintro j σ H5 hj ⟨⟨v5, rfl⟩, s5, hcl5, M5, m5, g5, am5⟩
        obtain ⟨⟨e0, e1⟩, ea⟩ := atφ hj
        have gs := gm.same s5
        obtain ⟨r1, _, _, at1, row1⟩ := gs.getZ hi
        obtain ⟨r2, hr2, mr2, at2, row2⟩ := g5.getI (atφ hi).1
        refine ⟨_, rfl, p, _, _, _, rfl, rfl, SqL.of (s5 _ _ hp), at_of (j := 1) rfl rfl, _, rfl, tb, _, _, _, rfl, rfl, SqL.of gs.top, at1, _, rfl, r1, _, _, _, rfl, rfl, SqL.of row1, rowV_atZ hj, _, rfl, _, rfl, _, rfl, q, _, _, _, rfl, rfl, SqT.of (s5 _ _ hq), fa, D, _, _, _, rfl, rfl, SqL.of g5.top, at2, _, rfl, _, rfl, q, _, _, _, rfl, rfl, SqT.of (s5 _ _ hq), ea, r2, _, _, (fφ φ (j : Int)).toNat, rfl, rfl, row2, ?_, ?_⟩
        · unfold ixN
          rw [rowV_len, if_pos e0, if_pos e1]
        have g6 := g5.set (b := (fφ φ (j : Int)).toNat) hr2 (.int (M i j))
        rw [igSet] at g6
        have r2c : cl0 ≠ r2 := fun z => clt (z ▸ mr2)
        refine ⟨⟨_, rfl⟩, fun b o e => by rw [upd_ne (ne_of_none e (tH r2 mr2))]; exact s5 _ _ e, by rw [upd_ne r2c]; exact hcl5, _, ⟨fun x hx => ?_, fun x y hx hy => ?_⟩, g6, fun x y h => ?_⟩
        · show (if x = (fφ φ (i : Int)).toNat ∧ x = (fφ φ (j : Int)).toNat then M i j else M5 x x) = 0
          split
          · next h => rw [show i = j from inj hi hj (h.1.symm.trans h.2)]; exact mo.1 j hj
          · exact m5.1 x hx
        · show 0 ≤ (if x = (fφ φ (i : Int)).toNat ∧ y = (fφ φ (j : Int)).toNat then M i j else M5 x y) ∧ (if x = (fφ φ (i : Int)).toNat ∧ y = (fφ φ (j : Int)).toNat then M i j else M5 x y) ≤ 1000000000
          split
          · exact mo.2 i j hi hj
          · exact m5.2 x y hx hy
        · show (if (fφ φ (x : Int)).toNat = (fφ φ (i : Int)).toNat ∧ (fφ φ (y : Int)).toNat = (fφ φ (j : Int)).toNat then M i j else M5 (fφ φ (x : Int)).toNat (fφ φ (y : Int)).toNat) = M x y
          have hx : x < m := by omega
          have hy : y < m := by omega
          split
          · next e => rw [inj hx hi e.1, inj hy hj e.2]
          · next e =>
            refine am5 x y ?_
            rcases h with h | ⟨h1, h2⟩
            · exact .inl h
            · by_cases z : y = j
              · exact absurd ⟨by rw [h1], by rw [z]⟩ e
              · exact .inr ⟨h1, by omega⟩
      · rintro σ H5 ⟨⟨v5, rfl⟩, s5, hcl5, M5, m5, g5, am5⟩
        refine ⟨⟨_, _, rfl⟩, s5, _, M5, hcl5, ⟨by rw [List.length_set]; exact lc', cb4, m5⟩, ac4, g5, fun x y hx hy => am5 x y ?_⟩
        by_cases e : x < i
        · exact .inl ⟨e, hy⟩
        · exact .inr ⟨by omega, hy⟩
    · rintro σ H3 ⟨⟨v4, v5, rfl⟩, s3, cs, M', hcl3, pok, ac, g3, am⟩
      refine ⟨_, rfl, cl0, _, rfl, .inl ⟨SqL.of hcl3, fun t ht => ⟨_, rfl, (by show 2 ≤ sizeLine; decide), fun p' hp' => ?_⟩⟩⟩
      have s4 := Same.new (o := .tup (cs.map V.int)) ht
      have s5 := Same.new (o := .lst [.ref t, .ref D]) hp'
      refine fin p' cs M' _ ((s3.trans s4).trans s5) ⟨t, D, ts, upd_same, s5 _ _ upd_same, g3.same (s4.trans s5)⟩ pok (fun a ha => ?_) fun a b ha hb => ?_
      · have a0 := ha.1
        have a1 := ha.2
        have := ac a.toNat (by omega)
        rw [Int.toNat_of_nonneg a0] at this
        exact this
      · have a0 := ha.1
        have a1 := ha.2
        have b0 := hb.1
        have b1 := hb.2
        have := am a.toNat b.toNat (by omega) (by omega)
        rw [Int.toNat_of_nonneg a0, Int.toNat_of_nonneg b0] at this
        exact this
end
end Kx
namespace Kx
open PySem L2
def sp_fchanged (K : PySem.W.Frag) : Sp := fun vs H Q _ => ∃ (s a p : Addr) (ns : List Int) (n m : Nat) (cols : List Int) (M : Nat → Nat → Int), vs = [.ref s, .ref p] ∧ SAt K H s a ns n ∧ n + 100 < 2 ^ 40 ∧ PairAt H p m cols M ∧ POk m cols M ∧ m ≤ 12 ∧
  ∀ (p' : Addr) (M' : Nat → Nat → Int) (H' : Hp), PairAt H' p' m cols M' → POk m cols M' → SAt K H' s a ns (n + 4) → Keep [s] H H' → Q (.ref p') H'
section
variable {P : Program} {w : World} {K : PySem.W.Frag} {mg : Str → Option Value} {base : Heap}
theorem sc_fchanged : FnScope ["_law_state", "_law_one", "_law_many", "_law_table", "_law_a", "_law_b", "_law_mark", "_law_row"] ["_law_state", "_law_one"] (defScope s_fchanged) := ⟨rfl, rfl, rfl, by decide +kernel, rfl, by decide +kernel, by decide +kernel⟩
set_option maxHeartbeats 4000000 in
theorem ok_fchanged {f : Addr} {fd : FuncData} (F : Fun K "_law_changed" "_law_changed" s_fchanged f fd) (T : Txt mg) (F_ftake : Fn P w K mg base "_law_take" 1 ["_law_state", "_law_below"] (sp_ftake K)) : FnOk P w K mg base CX0 2 f fd ["_law_state", "_law_one"] (sp_fchanged K) := by
  refine F.ok sc_fchanged (fun vs H Q E h => ?_) (fun cdv A outer st H vs Q E hr h => ?_)
  · obtain ⟨s, a, p, ns, n, m, cols, M, rfl, _⟩ := h
    rfl
  · have nd := sc_fchanged.nd
    obtain ⟨s, a, p, ns, n, m, cols, M, rfl, S, hn, pa, ⟨cl, cb, mo⟩, m12, fin⟩ := h
    obtain ⟨tc, tb, rs, hp, hc, gm⟩ := id pa
    refine ⟨_, (pss_cons (ps_set (i := 2) nd rfl (Or.inl rfl) (pe_callB (call_lenK (K := K)) (by rfl) T.len (by decide +kernel) (pa_cons (pe_ix (ix_listK (K := K)) (pv 1) pe_int (fun _ _ => rfl)) pa_nil)))
      (pss_cons (ps_setLc (i := 3) (own := [("_law_row", 7)]) (g := gName 7) (by rfl) nd rfl rfl (sw_true rfl rfl rfl (by decide +kernel)) (pi_listK (K := K) (pe_ix (ix_listK (K := K)) (pv 1) pe_int (fun _ _ => rfl))) (blkOk_by (own := [("_law_row", 7)]) (N := ["_law_state", "_law_one", "_law_many", "_law_table", "_law_a", "_law_b", "_law_mark", "_law_row"]) (sc := defScope s_fchanged) (by decide +kernel)) (fun _ _ _ _ _ => (pg_name (i := 7) nd rfl (Or.inl rfl))) (fun _ _ _ _ _ => pts_nil) (fun _ _ _ _ _ => (pe_callTy (call_listK (K := K)) (by rfl) T.list (by decide +kernel) (pa_cons (pv 7) pa_nil))))
      (pss_cons (ps_if (pt_cmpR op_gt (pv 2) pe_int (nomark _))
      (pss_cons (ps_set (i := 4) nd rfl (Or.inl rfl) (pe_fn F_ftake hr (pa_cons (pv 0) (pa_cons (pv 2) pa_nil))))
      (pss_cons (ps_set (i := 5) nd rfl (Or.inl rfl) (pe_op op_mod (pe_op op_add (pe_op op_add (pv 4) pe_int) (pe_fn F_ftake hr (pa_cons (pv 0) (pa_cons (pe_op op_sub (pv 2) pe_int) pa_nil)))) (pv 2)))
      (pss_one (ps_if (pt_cmpR op_eq (pe_fn F_ftake hr (pa_cons (pv 0) (pa_cons pe_int pa_nil))) pe_int (nomark _))
      (pss_cons (ps_set (i := 6) nd rfl (Or.inl rfl) (pe_ix (ix_listK (K := K)) (pe_ix (ix_listK (K := K)) (pv 3) (pv 4) (fun _ _ => rfl)) (pv 5) (fun _ _ => rfl)))
      (pss_cons (ps_asg (pe_ix (ix_listK (K := K)) (pe_ix (ix_listK (K := K)) (pv 3) (pv 5) (fun _ _ => rfl)) (pv 4) (fun _ _ => rfl)) (pg_sub (pe_ix (ix_listK (K := K)) (pv 3) (pv 4) (fun _ _ => rfl)) (pv 5) set_list))
      (pss_one (ps_asg (pv 6) (pg_sub (pe_ix (ix_listK (K := K)) (pv 3) (pv 5) (fun _ _ => rfl)) (pv 4) set_list)))))
      (pss_one (ps_asg (pe_ixQ (ix_listK (K := K)) (qe_lst (qa_cons pe_int (qa_cons pe_int (qa_cons pe_int (qa_cons (pe_op op_pow pe_int pe_int) qa_nil))))) (pe_fn F_ftake hr (pa_cons (pv 0) (pa_cons pe_int pa_nil))) (fun _ _ => rfl)) (pg_sub (pe_ix (ix_listK (K := K)) (pv 3) (pv 4) (fun _ _ => rfl)) (pv 5) set_list)))))))
      pss_nil)
      (pss_one (ps_ret (pe_lst (pa_cons (pe_ix (ix_listK (K := K)) (pv 1) pe_int (fun _ _ => rfl)) (pa_cons (pv 3) pa_nil)))))))), ?_⟩
    have z4 : (4 : Nat) ≤ sizeLine := by decide
    have ecl : ((cols.map V.int).length : Int) = (m : Int) := by rw [List.length_map, cl]
    have ps : p ≠ s := S.offR (rs := [tc, tb]) hp
    have tcs : tc ≠ s := fun z => by obtain ⟨_, e⟩ := S.at; rw [z, e] at hc; cases hc
    refine ⟨_, rfl, p, _, _, _, rfl, rfl, SqL.of hp, at_of (j := 0) rfl rfl, tc, _, rfl, .inr (SqT.of hc), ?_⟩
    rw [ecl]
    refine ⟨_, rfl, p, _, _, _, rfl, rfl, SqL.of hp, at_of (j := 1) rfl rfl, tb, rfl, ⟨_, SqL.of gm.top⟩, fun D hD => lc_list (K := K) (a := tb) (xs := rs.map V.ref) (fun i H' => Same H H' ∧ ∃ ts : List Addr, H' D = some (.lst (ts.map V.ref)) ∧ ts.length = i ∧ ts.Nodup ∧ D ∉ ts ∧ (∀ r ∈ ts, H r = none) ∧ ∀ (a : Nat) (r : Addr), ts[a]? = some r → H' r = some (.lst (rowV m (IG M a))))
      ⟨Same.new hD, [], upd_same, rfl, List.nodup_nil, by simp, (fun r h => nomatch h), fun a r h => by simp at h⟩ (fun i H' _ h => SqL.of (h.1 _ _ gm.top)) ?_ ?_⟩
    · rintro i x H2 hx ⟨s2, ts, hD2, lt, ndt, kt, newt, rows⟩
      rw [List.getElem?_map] at hx
      obtain ⟨r, hr', rfl⟩ := Option.map_eq_some_iff.mp hx
      have hi := (List.getElem?_eq_some_iff.mp hr').1
      have lrs := gm.len
      have hrow := s2 _ _ (gm.row i r hr')
      refine ⟨rfl, _, rfl, r, _, rfl, .inl (SqL.of hrow), fun l hl => ?_⟩
      have s3 := Same.new (o := .lst (rowV m (IG M i))) hl
      have hl3 := upd_same (H := H2) (a := l) (o := .lst (rowV m (IG M i)))
      have lD : D ≠ l := ne_of_none hD2 hl
      generalize upd H2 l (.lst (rowV m (IG M i))) = H3 at s3 hl3
      refine ⟨_, s3 _ _ hD2, by rw [List.length_map, lt]; exact small1000 (by omega), same_set2 (s2.trans s3) hD, ts ++ [l], by rw [upd_same, List.map_append]; rfl, by rw [List.length_append, lt]; rfl, ?_, ?_, ?_, ?_⟩
      · refine List.nodup_append.mpr ⟨ndt, by simp, fun a ha b hb e => ?_⟩
        rw [List.mem_singleton] at hb
        obtain ⟨k, hk⟩ := List.mem_iff_getElem?.mp ha
        have := rows k a hk
        rw [e, hb, hl] at this
        cases this
      · intro z
        rcases List.mem_append.mp z with z | z
        · exact kt z
        · exact lD (List.mem_singleton.mp z)
      · intro x hx
        rcases List.mem_append.mp hx with z | z
        · exact newt x z
        · rw [List.mem_singleton.mp z]; exact s2.free hl
      · intro a x ha
        by_cases ca : a < ts.length
        · rw [List.getElem?_append_left ca] at ha
          have hne : x ≠ D := fun z => kt (by rw [← z]; exact List.mem_of_getElem? ha)
          rw [upd_ne hne]
          exact s3 _ _ (rows a x ha)
        · rw [List.getElem?_append_right (by omega)] at ha
          have ea : a = ts.length := by
            have := (List.getElem?_eq_some_iff.mp ha).1
            simp at this
            omega
          rw [ea, Nat.sub_self] at ha
          cases ha
          rw [upd_ne lD.symm, hl3, ea, lt]
    rintro H2 ⟨s2, ts, hD2, lt, ndt, kt, newt, rows⟩
    have lrs := gm.len
    rw [List.length_map, lrs] at lt
    have g2 : Grid H2 D ts m (IG M) := ⟨hD2, lt, ndt, kt, rows⟩
    have S2 := S.same s2
    have hD' : H D = none := hD
    refine ⟨_, rfl, _, _, rfl, rfl, _, rfl, ?_⟩
    refine fmerge (F := fun σ Hx => (∃ v4 v5 v6, σ = [some (.ref s), some (.ref p), some (.int (m : Int)), some (.ref D), v4, v5, v6, none]) ∧ SAt K Hx s a ns (n + 4) ∧ Keep [s] H Hx ∧ ∃ M', Grid Hx D ts m (IG M') ∧ MOk m M') ?R (fun rest => ?mm) (fun σ Hx ff => ?r)
    case mm =>
      refine ite2 (fun hpos => ?pos) (fun _ => ?neg)
      case neg => exact rest _ _ ⟨⟨_, _, _, rfl⟩, S2.more (by omega), s2.keep, M, g2, mo⟩
      case pos =>
        have m2 : 1 < m := by have := of_decide_eq_true hpos; omega
        have put : ∀ {Hx : Hp} {n' : Nat} {M' : Nat → Nat → Int} {x y v : Int}, SAt K Hx s a ns n' → Keep [s] H Hx → Grid Hx D ts m (IG M') → MOk m M' → Rg.In m x → Rg.In m y → x ≠ y → 0 ≤ v → v ≤ 1000000000 → ∃ r, atI (ts.map V.ref) x = some (.ref r) ∧ Hx r = some (.lst (rowV m (IG M' x.toNat))) ∧ ixN (rowV m (IG M' x.toNat)).length y = some y.toNat ∧
            SAt K (upd Hx r (.lst ((rowV m (IG M' x.toNat)).set y.toNat (.int v)))) s a ns n' ∧ Keep [s] H (upd Hx r (.lst ((rowV m (IG M' x.toNat)).set y.toNat (.int v)))) ∧ ∃ M'', Grid (upd Hx r (.lst ((rowV m (IG M' x.toNat)).set y.toNat (.int v)))) D ts m (IG M'') ∧ MOk m M'' := by
          intro Hx n' M' x y v Sx kx gx mx ix iy ne v0 v1
          obtain ⟨r, hr', mr, at1, row1⟩ := gx.getI ix
          obtain ⟨x0, x1⟩ := ix
          obtain ⟨y0, y1⟩ := iy
          have rH := newt r mr
          refine ⟨r, at1, row1, ?_, S.setNew rH Sx, kx.setNew rH, ?_⟩
          · unfold ixN
            rw [rowV_len, if_pos y0, if_pos y1]
          · have g6 := gx.set (b := y.toNat) hr' (.int v)
            rw [igSet] at g6
            refine ⟨_, g6, fun u hu => ?_, fun u z hu hz => ?_⟩
            · show (if u = x.toNat ∧ u = y.toNat then v else M' u u) = 0
              rw [if_neg (by omega)]; exact mx.1 u hu
            · show 0 ≤ (if u = x.toNat ∧ z = y.toNat then v else M' u z) ∧ (if u = x.toNat ∧ z = y.toNat then v else M' u z) ≤ 1000000000
              split
              · exact ⟨v0, v1⟩
              · exact mx.2 u z hu hz
        refine ⟨_, rfl, _, rfl, s, a, ns, _, _, rfl, S2, by omega, by omega, by omega, fun x H3 x0 x1 S3 k3 => ?_⟩
        refine ⟨_, rfl, _, _, rfl, rfl, _, rfl, _, rfl, _, _, rfl, rfl, s, a, ns, _, _, rfl, S3, by omega, by omega, by omega, fun t H4 t0 t1 S4 k4 => ⟨_, _, rfl, rfl, _, rfl, _, _, rfl, rfl, (by show (0 : Int) < m; omega), ?_⟩⟩
        obtain ⟨y, hy, y0, y1, ne⟩ : ∃ y : Int, (x + 1 + t) % (m : Int) = y ∧ 0 ≤ y ∧ y < m ∧ x ≠ y := by
          refine ⟨_, rfl, Int.emod_nonneg _ (by omega), Int.emod_lt_of_pos _ (by omega), fun z => ?_⟩
          by_cases h : x + 1 + t < m
          · rw [Int.emod_eq_of_lt (by omega) h] at z; omega
          · have e : (x + 1 + t) % (m : Int) = x + 1 + t - m := by
              rw [← Int.sub_emod_right, Int.emod_eq_of_lt (by omega) (by omega)]
            rw [e] at z; omega
        show gName 5 (V.int ((x + 1 + t) % (m : Int))) _ _ _
        rw [hy]
        have g4 := g2.keepS S2 (k3.trans k4)
        have kk4 : Keep [s] H H4 := s2.keep.trans (k3.trans k4)
        refine ⟨_, rfl, s, a, ns, _, _, rfl, S4, by omega, by decide, by decide, fun u H5 u0 u1 S5 k5 => ⟨rfl, _, rfl, ?_⟩⟩
        have g5 := g4.keepS S4 k5
        have kk5 := kk4.trans k5
        have ix : Rg.In m x := ⟨x0, x1⟩
        have iy : Rg.In m y := ⟨y0, y1⟩
        have bnd : ∀ {x y : Int}, Rg.In m x → Rg.In m y → 0 ≤ M x.toNat y.toNat ∧ M x.toNat y.toNat ≤ 1000000000 := fun {x y} h1 h2 => mo.2 _ _ (by have := h1.1; have := h1.2; omega) (by have := h2.1; have := h2.2; omega)
        have rowat : ∀ {G : Nat → V} {x : Int}, Rg.In m x → atI (rowV m G) x = some (G x.toNat) := fun {G x} h => at_of (j := x.toNat) (by have := h.1; omega) (rowV_get (by have := h.1; have := h.2; omega))
        refine ite2 (fun _ => ?pos2) (fun _ => ?neg2)
        case pos2 =>
          obtain ⟨r1, _, _, a1, w1⟩ := g5.getI ix
          obtain ⟨r2, _, _, a2, w2⟩ := g5.getI iy
          refine ⟨_, rfl, _, rfl, D, _, _, _, rfl, rfl, SqL.of g5.top, a1, _, rfl, r1, _, _, _, rfl, rfl, SqL.of w1, rowat iy, ?_⟩
          obtain ⟨b0, b1⟩ := bnd iy ix
          obtain ⟨r, e1, e2, e3, S6, k6, M6, g6, m6⟩ := put (v := M y.toNat x.toNat) S5 kk5 g5 mo ix iy ne b0 b1
          refine ⟨_, rfl, _, rfl, D, _, _, _, rfl, rfl, SqL.of g5.top, a2, _, rfl, r2, _, _, _, rfl, rfl, SqL.of w2, rowat ix, _, rfl, _, rfl, D, _, _, _, rfl, rfl, SqL.of g5.top, e1, _, rfl, r, _, _, _, rfl, rfl, e2, e3, ?_⟩
          obtain ⟨c0, c1⟩ := bnd ix iy
          obtain ⟨r', f1, f2, f3, S7, k7, M7, g7, m7⟩ := put (v := M x.toNat y.toNat) S6 k6 g6 m6 iy ix ne.symm c0 c1
          refine ⟨_, rfl, _, rfl, _, rfl, D, _, _, _, rfl, rfl, SqL.of g6.top, f1, _, rfl, r', _, _, _, rfl, rfl, f2, f3, ?_⟩
          exact rest _ _ ⟨⟨_, _, _, rfl⟩, S7.more (by omega), k7, M7, g7, m7⟩
        case neg2 =>
          refine ⟨_, _, rfl, rfl, ⟨by decide, by decide, by decide⟩, z4, fun l hl => ⟨_, rfl, s, a, ns, _, _, rfl, S5.same (Same.new hl), by omega, by decide, by decide, fun t2 H6 t20 t21 S6 k6 => ?_⟩⟩
          have ls := S5.ne hl
          have hl6 := k6 _ _ (upd_same (H := H5) (a := l) (o := .lst [.int 0, .int 1, .int 2, .int (10 ^ (9 : Int).toNat)])) (by simp [ls])
          have k56 : Keep [s] H5 H6 := (Same.new hl).keep.trans k6
          obtain ⟨v, ev, v0, v1⟩ : ∃ v : Int, atI [V.int 0, .int 1, .int 2, .int (10 ^ (9 : Int).toNat)] t2 = some (.int v) ∧ 0 ≤ v ∧ v ≤ 1000000000 := by
            obtain rfl | rfl | rfl | rfl : t2 = 0 ∨ t2 = 1 ∨ t2 = 2 ∨ t2 = 3 := by omega
            all_goals exact ⟨_, rfl, by decide, by decide⟩
          have g6 := g5.keepS S5 k56
          obtain ⟨r', f1, f2, f3, S7, k7, M7, g7, m7⟩ := put (v := v) S6 (kk5.trans k56) g6 mo ix iy ne v0 v1
          refine ⟨l, _, _, .int v, rfl, rfl, SqL.of hl6, ev, _, rfl, _, rfl, D, _, _, _, rfl, rfl, SqL.of g6.top, f1, _, rfl, r', _, _, _, rfl, rfl, f2, f3, ?_⟩
          exact rest _ _ ⟨⟨_, _, _, rfl⟩, S7.more (by omega), k7, M7, g7, m7⟩
    case r =>
    obtain ⟨⟨v4, v5, v6, rfl⟩, S3, k3, M', g3, m3⟩ := ff
    refine ⟨_, rfl, p, _, _, _, rfl, rfl, SqL.of (k3 _ _ hp (by simp [ps])), at_of (j := 0) rfl rfl, _, rfl, (by show 2 ≤ sizeLine; decide), fun p' hp' => ?_⟩
    have s4 := Same.new (o := .lst [.ref tc, .ref D]) hp'
    exact fin p' M' _ ⟨tc, D, ts, upd_same, s4 _ _ (k3 _ _ hc (by simp [tcs])), g3.same s4⟩ ⟨cl, cb, m3⟩ (S3.same s4) (k3.trans s4.keep)
end
end Kx
namespace Kx
open PySem L2
theorem Ti.keepS {K : PySem.W.Frag} {H H' : Hp} {s a q : Addr} {ns xs : List Int} {n : Nat} (S : SAt K H s a ns n) (k : Keep [s] H H') (h : TI H q xs) : TI H' q xs := k _ _ h fun e => by
  obtain ⟨_, z⟩ := S.at
  have h2 : H s = some (.tup (xs.map V.int)) := by rw [← List.mem_singleton.mp e]; exact h
  rw [z] at h2; cases h2
def sp_ftwo (K : PySem.W.Frag) : Sp := fun vs H Q _ => ∃ (s a : Addr) (ns : List Int) (n mo : Nat), vs = [.ref s, .int (mo : Int)] ∧ SAt K H s a ns n ∧ n + 9000 < 2 ^ 40 ∧ 1 ≤ mo ∧ mo ≤ 9 ∧
  ∀ (t p1 p2 q : Addr) (m1 m2 : Nat) (c1 c2 φ : List Int) (M1 M2 : Nat → Nat → Int) (H' : Hp), H' t = some (.lst [.ref p1, .ref p2, .ref q]) → PairAt H' p1 m1 c1 M1 → POk m1 c1 M1 → PairAt H' p2 m2 c2 M2 → POk m2 c2 M2 → TI H' q φ → Nm.IsN m2 φ → m1 ≤ mo + 2 → m2 ≤ mo + 2 → SAt K H' s a ns (n + 1200) → Keep [s] H H' → Q (.ref t) H'
def sp_frows (K : PySem.W.Frag) : Sp := fun vs H Q _ => ∃ (s a p1 p2 q : Addr) (ns : List Int) (n m1 m2 : Nat) (c1 c2 φ : List Int) (M1 M2 : Nat → Nat → Int), vs = [.ref s, .ref p1, .ref p2, .ref q] ∧ SAt K H s a ns n ∧ n + 900 < 2 ^ 40 ∧ PairAt H p1 m1 c1 M1 ∧ c1.length = m1 ∧ PairAt H p2 m2 c2 M2 ∧ c2.length = m2 ∧ m1 ≤ 12 ∧ m2 ≤ 12 ∧ TI H q φ ∧ Nm.IsN m2 φ ∧
  ∀ (t r1 r2 : Addr) (row1 row2 : List Int) (H' : Hp), H' t = some (.lst [.ref r1, .ref r2]) → TI H' r1 row1 → TI H' r2 row2 → RowOk m1 row1 → RowOk m2 row2 → SAt K H' s a ns (n + 50) → Keep [s] H H' → Q (.ref t) H'
theorem rowOk_isN {m : Nat} {xs : List Int} (h : Nm.IsN m xs) (k : Nat) : RowOk m (xs.take k) := ⟨List.Nodup.sublist (List.take_sublist _ _) h.nodup, fun x hx => h.mem.mp (List.mem_of_mem_take hx)⟩
section
variable {P : Program} {w : World} {K : PySem.W.Frag} {mg : Str → Option Value} {base : Heap}
theorem sc_ftwo : FnScope ["_law_state", "_law_most", "_law_choice", "_law_kind", "_law_many", "_law_kinds_here", "_law_one", "_law_other", "_law_fewer", "_law_naming"] ["_law_state", "_law_most"] (defScope s_ftwo) := ⟨rfl, rfl, rfl, by decide +kernel, rfl, by decide +kernel, by decide +kernel⟩
set_option maxHeartbeats 4000000 in
theorem ok_ftwo {f : Addr} {fd : FuncData} (F : Fun K "_law_two" "_law_two" s_ftwo f fd) (T : Txt mg) (F_ftake : Fn P w K mg base "_law_take" 1 ["_law_state", "_law_below"] (sp_ftake K)) (F_fkinds : Fn P w K mg base "_law_kinds" 2 ["_law_state"] (sp_fkinds K)) (F_fweb : Fn P w K mg base "_law_web" 3 ["_law_state", "_law_choice", "_law_many", "_law_kinds_here"] (sp_fweb K)) (F_fchanged : Fn P w K mg base "_law_changed" 2 ["_law_state", "_law_one"] (sp_fchanged K)) (F_forder : Fn P w K mg base "_law_order" 2 ["_law_state", "_law_many"] (sp_forder K)) (F_frenamed : Fn P w K mg base "_law_renamed" 1 ["_law_one", "_law_naming"] sp_frenamed) : FnOk P w K mg base CX0 4 f fd ["_law_state", "_law_most"] (sp_ftwo K) := by
  refine F.ok sc_ftwo (fun vs H Q E h => ?_) (fun cdv A outer st H vs Q E hr h => ?_)
  · obtain ⟨s, a, ns, n, mo, rfl, _⟩ := h
    rfl
  · have nd := sc_ftwo.nd
    obtain ⟨s, a, ns, n, mo, rfl, S, hn, mo1, mo9, fin⟩ := h
    refine ⟨_, (pss_cons (ps_set (i := 2) nd rfl (Or.inl rfl) (pe_fn F_ftake hr (pa_cons (pv 0) (pa_cons pe_int pa_nil))))
      (pss_cons (ps_set (i := 3) nd rfl (Or.inl rfl) (pe_fn F_ftake hr (pa_cons (pv 0) (pa_cons pe_int pa_nil))))
      (pss_cons (ps_set (i := 4) nd rfl (Or.inl rfl) (pe_fn F_ftake hr (pa_cons (pv 0) (pa_cons (pe_op op_add (pv 1) pe_int) pa_nil))))
      (pss_cons (ps_if (pt_cmpR (op_inK (K := K)) (pv 2) (pe_tup (pa_cons pe_int (pa_cons pe_int pa_nil))) (by rfl))
      (pss_one (ps_set (i := 4) nd rfl (Or.inl rfl) (pe_op op_add pe_int (pe_fn F_ftake hr (pa_cons (pv 0) (pa_cons (pv 1) pa_nil))))))
      pss_nil)
      (pss_cons (ps_set (i := 5) nd rfl (Or.inl rfl) (pe_fn F_fkinds hr (pa_cons (pv 0) pa_nil)))
      (pss_cons (ps_set (i := 6) nd rfl (Or.inl rfl) (pe_fn F_fweb hr (pa_cons (pv 0) (pa_cons (pv 2) (pa_cons (pv 4) (pa_cons (pv 5) pa_nil))))))
      (pss_cons (ps_set (i := 7) nd rfl (Or.inl rfl) (pv 6))
      (pss_cons (ps_if (pt_cmpR op_eq (pv 3) pe_int (nomark _))
      (pss_one (ps_set (i := 7) nd rfl (Or.inl rfl) (pe_fn F_fchanged hr (pa_cons (pv 0) (pa_cons (pv 6) pa_nil)))))
      pss_nil)
      (pss_cons (ps_if (pt_cmpR op_eq (pv 3) pe_int (nomark _))
      (pss_cons (ps_set (i := 8) nd rfl (Or.inl rfl) (pe_callTy call_int1 (by rfl) T.int (by decide +kernel) (pa_cons (pe_cmpR op_eq (pe_fn F_ftake hr (pa_cons (pv 0) (pa_cons pe_int pa_nil))) pe_int (nomark _)) pa_nil)))
      (pss_one (ps_set (i := 7) nd rfl (Or.inl rfl) (pe_fn F_fweb hr (pa_cons (pv 0) (pa_cons (pv 2) (pa_cons (pe_callB (call_max2 rfl) (by rfl) T.max (by decide +kernel) (pa_cons pe_int (pa_cons (pe_op op_sub (pv 4) (pv 8)) pa_nil))) (pa_cons (pv 5) pa_nil))))))))
      pss_nil)
      (pss_cons (ps_set (i := 9) nd rfl (Or.inl rfl) (pe_fn F_forder hr (pa_cons (pv 0) (pa_cons (pe_callB (call_lenK (K := K)) (by rfl) T.len (by decide +kernel) (pa_cons (pe_ix (ix_listK (K := K)) (pv 7) pe_int (fun _ _ => rfl)) pa_nil)) pa_nil))))
      (pss_one (ps_ret (pe_lst (pa_cons (pv 6) (pa_cons (pe_fn F_frenamed hr (pa_cons (pv 7) (pa_cons (pv 9) pa_nil))) (pa_cons (pv 9) pa_nil)))))))))))))))), ?_⟩
    refine ⟨_, rfl, s, a, ns, _, _, rfl, S, by omega, by decide, by decide, fun ch H1 c0 c1 S1 k1 => ?_⟩
    refine ⟨_, rfl, s, a, ns, _, _, rfl, S1, by omega, by decide, by decide, fun kd H2 d0 d1 S2 k2 => ?_⟩
    refine ⟨_, rfl, _, rfl, _, _, rfl, rfl, s, a, ns, _, _, rfl, S2, by omega, by omega, by omega, fun v H3 v0 v1 S3 k3 => ?_⟩
    have kk3 := (k1.trans k2).trans k3
    refine ⟨_, rfl, (by show 2 ≤ sizeLine; decide), fun q hq => ⟨q, _, rfl, .inr (SqT.of upd_same), rfl, rfl, _, rfl, ?_⟩⟩
    have sq := Same.new (o := .tup [.int 1, .int 2]) hq
    have S3' := S3.same sq
    have kk3' := kk3.trans sq.keep
    generalize upd H3 q (.tup [.int 1, .int 2]) = H3' at sq S3' kk3' ⊢
    refine fmerge (F := fun σ Hx => ∃ v : Int, σ = [some (.ref s), some (.int (mo : Int)), some (.int ch), some (.int kd), some (.int v), none, none, none, none, none] ∧ SAt K Hx s a ns (n + 4) ∧ Keep [s] H Hx ∧ 0 ≤ v ∧ v ≤ mo + 2) ?R (fun rest => ?mm) (fun σ Hx ff => ?r)
    case mm =>
      refine ite2 (fun _ => ?pos) (fun _ => ?neg)
      case neg => exact rest _ _ ⟨v, rfl, S3'.more (by omega), kk3', v0, by omega⟩
      case pos =>
        refine ⟨_, rfl, _, rfl, s, a, ns, _, _, rfl, S3', by omega, by omega, by omega, fun t H4 t0 t1 S4 k4 => ⟨_, _, rfl, rfl, ?_⟩⟩
        exact rest _ _ ⟨3 + t, rfl, S4.more (by omega), kk3'.trans k4, by omega, by omega⟩
    case r =>
    obtain ⟨v, rfl, S4, k4, v0, v1⟩ := ff
    obtain ⟨m, rfl⟩ := Int.eq_ofNat_of_zero_le v0
    refine ⟨_, rfl, s, a, ns, _, rfl, S4, by omega, fun pk ks H5 hpk npk lk bk _ S5 k5 => ?_⟩
    have pks := S5.off hpk
    refine ⟨_, rfl, _, rfl, _, rfl, _, rfl, s, a, pk, ns, ks, _, m, ch, rfl, S5, by omega, c0, c1, by omega, hpk, lk, bk, fun p1 C1 M1 H6 pa1 ok1 _ _ S6 k6 => ?_⟩
    have hpk6 := k6 _ _ hpk (by simp [pks])
    have kk6 := (k4.trans k5).trans k6
    refine ⟨_, rfl, ?_⟩
    refine ⟨_, rfl, rfl, _, rfl, ?_⟩
    refine fmerge (F := fun σ Hx => ∃ (p2 : Addr) (M2 : Nat → Nat → Int), σ = [some (.ref s), some (.int (mo : Int)), some (.int ch), some (.int kd), some (.int (m : Int)), some (.ref pk), some (.ref p1), some (.ref p2), none, none] ∧ SAt K Hx s a ns (n + 520) ∧ Keep [s] H6 Hx ∧ PairAt Hx p2 m C1 M2 ∧ POk m C1 M2) ?R2 (fun rest => ?mm2) (fun σ Hx ff => ?r2)
    case mm2 =>
      refine ite2 (fun _ => ?pos) (fun _ => ?neg)
      case neg => exact rest _ _ ⟨p1, M1, rfl, S6.more (by omega), Keep.refl _ _, pa1, ok1⟩
      case pos =>
        refine ⟨_, rfl, _, rfl, s, a, p1, ns, _, m, C1, M1, rfl, S6, by omega, pa1, ok1, by omega, fun p2 M2 H7 pa2 ok2 S7 k7 => ?_⟩
        exact rest _ _ ⟨p2, M2, rfl, S7.more (by omega), k7, pa2, ok2⟩
    case r2 =>
    obtain ⟨p2, M2, rfl, S7, k67, pa2, ok2⟩ := ff
    have pa17 := pa1.keepS S6 k67
    have hpk7 := k67 _ _ hpk6 (by simp [pks])
    have kk7 := kk6.trans k67
    refine ⟨_, rfl, rfl, _, rfl, ?_⟩
    refine fmerge (F := fun σ Hx => ∃ (p2 : Addr) (m2 : Nat) (C2 : List Int) (M2 : Nat → Nat → Int) (v8 : Option V), σ = [some (.ref s), some (.int (mo : Int)), some (.int ch), some (.int kd), some (.int (m : Int)), some (.ref pk), some (.ref p1), some (.ref p2), v8, none] ∧ SAt K Hx s a ns (n + 1100) ∧ Keep [s] H Hx ∧ PairAt Hx p1 m C1 M1 ∧ PairAt Hx p2 m2 C2 M2 ∧ POk m2 C2 M2 ∧ m2 ≤ mo + 2) ?R3 (fun rest => ?mm3) (fun σ Hx ff => ?r3)
    case mm3 =>
      refine ite2 (fun _ => ?pos) (fun _ => ?neg)
      case neg => exact rest _ _ ⟨p2, m, C1, M2, none, rfl, S7.more (by omega), kk7, pa17, pa2, ok2, by omega⟩
      case pos =>
        refine ⟨_, rfl, s, a, ns, _, _, rfl, S7, by omega, by decide, by decide, fun t H8 t0 t1 S8 k8 => ⟨rfl, .inr ⟨_, rfl, ?_⟩⟩⟩
        obtain ⟨m2, e2, b2⟩ : ∃ m2 : Nat, (if ((m : Int) - (if decide (V.int t = V.int 0) = true then 1 else 0) > 0) then ((m : Int) - (if decide (V.int t = V.int 0) = true then 1 else 0)) else 0) = (m2 : Int) ∧ m2 ≤ m := by
          by_cases h : decide (V.int t = V.int 0) = true
          · rw [if_pos h]
            refine ⟨m - 1, ?_, by omega⟩
            split <;> omega
          · rw [if_neg h]
            refine ⟨m, ?_, by omega⟩
            split <;> omega
        refine ⟨_, rfl, _, rfl, _, rfl, _, rfl, _, _, rfl, rfl, _, _, rfl, _, rfl, s, a, pk, ns, ks, _, m2, ch, congrArg (fun z : Int => [V.ref s, .int ch, .int z, .ref pk]) e2, S8, by omega, c0, c1, by omega, k8 _ _ hpk7 (by simp [pks]), lk, bk, fun p3 C3 M3 H9 pa3 ok3 _ _ S9 k9 => ?_⟩
        exact rest _ _ ⟨p3, m2, C3, M3, _, rfl, S9.more (by omega), (kk7.trans k8).trans k9, pa17.keepS S7 (k8.trans k9), pa3, ok3, by omega⟩
    case r3 =>
    obtain ⟨p3, m2, C2, M3, v8, rfl, S9, k9, pa19, pa3, ok3, b3⟩ := ff
    obtain ⟨tc, tb, rs, hp3, hc3, g3⟩ := id pa3
    refine ⟨_, rfl, _, rfl, p3, _, _, _, rfl, rfl, SqL.of hp3, at_of (j := 0) rfl rfl, tc, _, rfl, .inr (SqT.of hc3), s, a, ns, _, m2, congrArg (fun z : Nat => [V.ref s, .int (z : Int)]) (by rw [List.length_map]; exact ok3.cl), S9, by omega, by omega, fun qn φ Ha iN hqn Sa ka => ?_⟩
    have pa3a := pa3.keepS S9 ka
    have pa1a := pa19.keepS S9 ka
    refine ⟨_, rfl, _, rfl, _, rfl, p3, qn, m2, C2, φ, M3, rfl, pa3a, ok3, hqn, iN, by omega, fun p' C' M' Hb sb pa' ok' _ _ => ⟨_, rfl, (by show 3 ≤ sizeLine; decide), fun t ht => ?_⟩⟩
    have sc := Same.new (o := .lst [.ref p1, .ref p', .ref qn]) ht
    exact fin t p1 p' qn m m2 C1 C' φ M1 M' _ upd_same (pa1a.same (sb.trans sc)) ok1 (pa'.same sc) ok' ((sb.trans sc) _ _ hqn) iN (by omega) b3 ((Sa.same (sb.trans sc)).more (by omega)) ((k9.trans ka).trans (sb.trans sc).keep)
theorem sc_frows : FnScope ["_law_state", "_law_one", "_law_other", "_law_naming", "_law_wide", "_law_choice", "_law_row", "_law_other_row", "_law_a"] ["_law_state", "_law_one", "_law_other", "_law_naming"] (defScope s_frows) := ⟨rfl, rfl, rfl, by decide +kernel, rfl, by decide +kernel, by decide +kernel⟩
set_option maxHeartbeats 4000000 in
theorem ok_frows {f : Addr} {fd : FuncData} (F : Fun K "_law_rows" "_law_rows" s_frows f fd) (T : Txt mg) (F_ftake : Fn P w K mg base "_law_take" 1 ["_law_state", "_law_below"] (sp_ftake K)) (F_forder : Fn P w K mg base "_law_order" 2 ["_law_state", "_law_many"] (sp_forder K)) : FnOk P w K mg base CX0 3 f fd ["_law_state", "_law_one", "_law_other", "_law_naming"] (sp_frows K) := by
  refine F.ok sc_frows (fun vs H Q E h => ?_) (fun cdv A outer st H vs Q E hr h => ?_)
  · obtain ⟨s, a, p1, p2, q, ns, n, m1, m2, c1, c2, φ, M1, M2, rfl, _⟩ := h
    rfl
  · have nd := sc_frows.nd
    obtain ⟨s, a, p1, p2, q, ns, n, m1, m2, c1, c2, φ, M1, M2, rfl, S, hn, pa1, l1, pa2, l2, b1, b2, hq, iN, fin⟩ := h
    refine ⟨_, (pss_cons (ps_set (i := 4) nd rfl (Or.inl rfl) (pe_ixQ (ix_listK (K := K)) (qe_lst (qa_cons pe_int (qa_cons pe_int (qa_cons pe_int (qa_cons pe_int (qa_cons pe_int (qa_cons pe_int qa_nil))))))) (pe_fn F_ftake hr (pa_cons (pv 0) (pa_cons pe_int pa_nil))) (fun _ _ => rfl)))
      (pss_cons (ps_set (i := 5) nd rfl (Or.inl rfl) (pe_fn F_ftake hr (pa_cons (pv 0) (pa_cons pe_int pa_nil))))
      (pss_cons (ps_set (i := 6) nd rfl (Or.inl rfl) (pe_slice (sl_tupS (K := K)) (pe_fn F_forder hr (pa_cons (pv 0) (pa_cons (pe_callB (call_lenK (K := K)) (by rfl) T.len (by decide +kernel) (pa_cons (pe_ix (ix_listK (K := K)) (pv 1) pe_int (fun _ _ => rfl)) pa_nil)) pa_nil))) po_none (po_some (pv 4))))
      (pss_cons (ps_set (i := 7) nd rfl (Or.inl rfl) (pe_slice (sl_tupS (K := K)) (pe_fn F_forder hr (pa_cons (pv 0) (pa_cons (pe_callB (call_lenK (K := K)) (by rfl) T.len (by decide +kernel) (pa_cons (pe_ix (ix_listK (K := K)) (pv 2) pe_int (fun _ _ => rfl)) pa_nil)) pa_nil))) po_none (po_some (pe_callB (call_max2 rfl) (by rfl) T.max (by decide +kernel) (pa_cons pe_int (pa_cons (pe_op op_sub (pv 4) (pe_callTy call_int1 (by rfl) T.int (by decide +kernel) (pa_cons (pe_cmpR op_eq (pv 5) pe_int (nomark _)) pa_nil))) pa_nil))))))
      (pss_cons (ps_if (PW.pt (pw_and (pt_cmpR op_gt (pv 5) pe_int (nomark _)) (pw_and1 (pt_cmpR op_eq (pe_callB (call_lenK (K := K)) (by rfl) T.len (by decide +kernel) (pa_cons (pe_ix (ix_listK (K := K)) (pv 1) pe_int (fun _ _ => rfl)) pa_nil)) (pe_callB (call_lenK (K := K)) (by rfl) T.len (by decide +kernel) (pa_cons (pv 3) pa_nil)) (nomark _)))))
      (pss_one (ps_set (i := 7) nd rfl (Or.inl rfl) (pe_callTy (call_tupleK (K := K)) (by rfl) T.tuple (by decide +kernel) (pa_cons (pe_lc (own := [("_law_a", 8)]) (g := gName 8) (by rfl) nd (pi_tupK (K := K) (pv 6)) (blkOk_by (own := [("_law_a", 8)]) (N := ["_law_state", "_law_one", "_law_other", "_law_naming", "_law_wide", "_law_choice", "_law_row", "_law_other_row", "_law_a"]) (sc := defScope s_frows) (by decide +kernel)) (fun _ _ _ _ _ => (pg_name (i := 8) nd rfl (Or.inl rfl))) (fun _ _ _ _ _ => pts_nil) (fun _ _ _ _ _ => (pe_ix (ix_tupK (K := K)) (pv 3) (pv 8) (fun _ _ => rfl)))) pa_nil))))
      pss_nil)
      (pss_one (ps_ret (pe_lst (pa_cons (pv 6) (pa_cons (pv 7) pa_nil)))))))))), ?_⟩
    refine ⟨(by show 6 ≤ sizeLine; decide), fun l hl => ⟨_, rfl, s, a, ns, _, _, rfl, S.same (Same.new hl), by omega, by decide, by decide, fun t H1 t0 t1 S1 k1 => ?_⟩⟩
    have ls := S.ne hl
    have hl1 := k1 _ _ (upd_same (H := H) (a := l) (o := .lst [.int 0, .int 0, .int 1, .int 1, .int 2, .int 3])) (by simp [ls])
    have kk1 : Keep [s] H H1 := (Same.new hl).keep.trans k1
    obtain ⟨wd, ew, w3⟩ : ∃ wd : Nat, atI [V.int 0, .int 0, .int 1, .int 1, .int 2, .int 3] t = some (.int (wd : Int)) ∧ wd ≤ 3 := by
      obtain rfl | rfl | rfl | rfl | rfl | rfl : t = 0 ∨ t = 1 ∨ t = 2 ∨ t = 3 ∨ t = 4 ∨ t = 5 := by omega
      · exact ⟨0, rfl, by decide⟩
      · exact ⟨0, rfl, by decide⟩
      · exact ⟨1, rfl, by decide⟩
      · exact ⟨1, rfl, by decide⟩
      · exact ⟨2, rfl, by decide⟩
      · exact ⟨3, rfl, by decide⟩
    refine ⟨l, _, _, .int (wd : Int), rfl, rfl, SqL.of hl1, ew, ?_⟩
    refine ⟨_, rfl, s, a, ns, _, _, rfl, S1, by omega, by decide, by decide, fun ch H2 c0 c1' S2 k2 => ?_⟩
    have kk2 := kk1.trans k2
    have pa12 := pa1.keepS S kk2
    obtain ⟨tc1, tb1, rs1, hp1, hc1, _⟩ := id pa12
    refine ⟨_, rfl, _, rfl, p1, _, _, _, rfl, rfl, SqL.of hp1, at_of (j := 0) rfl rfl, tc1, _, rfl, .inr (SqT.of hc1), s, a, ns, _, m1, congrArg (fun z : Nat => [V.ref s, .int (z : Int)]) (by rw [List.length_map]; exact l1), S2, by omega, b1, fun o1 x1 H3 i1 ho1 S3 k3 => ⟨_, rfl, _, rfl, o1, _, rfl, ho1, fun r1 H4 s4 hr1 => ?_⟩⟩
    rw [cut_to, ← List.map_take] at hr1
    have S4 := S3.same s4
    have kk4 := (kk2.trans k3).trans s4.keep
    have pa24 := pa2.keepS S kk4
    obtain ⟨tc2, tb2, rs2, hp2, hc2, _⟩ := id pa24
    obtain ⟨wd2, ew2⟩ : ∃ wd2 : Nat, (if ((wd : Int) - (if decide (V.int ch = V.int 1) = true then 1 else 0) > 0) then ((wd : Int) - (if decide (V.int ch = V.int 1) = true then 1 else 0)) else 0) = (wd2 : Int) := by
      by_cases h : decide (V.int ch = V.int 1) = true
      · rw [if_pos h]
        refine ⟨wd - 1, ?_⟩
        split <;> omega
      · rw [if_neg h]
        refine ⟨wd, ?_⟩
        split <;> omega
    refine ⟨_, rfl, _, rfl, p2, _, _, _, rfl, rfl, SqL.of hp2, at_of (j := 0) rfl rfl, tc2, _, rfl, .inr (SqT.of hc2), s, a, ns, _, m2, congrArg (fun z : Nat => [V.ref s, .int (z : Int)]) (by rw [List.length_map]; exact l2), S4, by omega, b2, fun o2 x2 H5 i2 ho2 S5 k5 => ⟨_, rfl, _, rfl, rfl, .inr ⟨_, rfl, _, _, rfl, rfl, _, _, rfl, _, rfl, o2, _, rfl, ho2, fun r2 H6 s6 hr2 => ?_⟩⟩⟩
    rw [ew2, cut_to, ← List.map_take] at hr2
    have hr16 : TI H6 r1 (x1.take wd) := s6 _ _ (Ti.keepS S4 k5 hr1)
    have S6 := S5.same s6
    have kk6 := (kk4.trans k5).trans s6.keep
    refine fmerge (F := fun σ Hx => ∃ (r2 : Addr) (row2 : List Int), σ = [some (.ref s), some (.ref p1), some (.ref p2), some (.ref q), some (.int (wd : Int)), some (.int ch), some (.ref r1), some (.ref r2), none] ∧ SAt K Hx s a ns (n + 50) ∧ Keep [s] H Hx ∧ TI Hx r1 (x1.take wd) ∧ TI Hx r2 row2 ∧ RowOk m2 row2) ?R (fun rest => ?mm) (fun σ Hx ff => ?r)
    case mm =>
      refine ⟨_, rfl, _, _, rfl, rfl, _, rfl, ?_⟩
      refine ite2 (fun _ => ?pos) (fun _ => ?neg)
      case neg =>
        refine iteF ?_
        exact rest _ _ ⟨r2, x2.take wd2, rfl, S6.more (by omega), kk6, hr16, hr2, rowOk_isN i2 wd2⟩
      case pos =>
        have pa16 := pa1.keepS S kk6
        obtain ⟨tc6, tb6, rs6, hp6, hc6, _⟩ := id pa16
        have hq6 : TI H6 q φ := Ti.keepS S kk6 hq
        refine ⟨_, rfl, p1, _, _, _, rfl, rfl, SqL.of hp6, at_of (j := 0) rfl rfl, tc6, _, rfl, .inr (SqT.of hc6), _, rfl, q, _, rfl, .inr (SqT.of hq6), rfl, _, rfl, ?_⟩
        refine ite2 (fun he => ?pos2) (fun _ => ?neg2)
        case neg2 => exact rest _ _ ⟨r2, x2.take wd2, rfl, S6.more (by omega), kk6, hr16, hr2, rowOk_isN i2 wd2⟩
        case pos2 =>
          have em : m1 = m2 := by
            have := V.int.inj (of_decide_eq_true he)
            rw [List.length_map, List.length_map, iN.length, l1] at this
            omega
          have N := nam_of b2 iN
          have ok1 : RowOk m2 (x1.take wd) := by rw [← em]; exact rowOk_isN i1 wd
          have rl := row_len ok1
          have h16 := hr16
          generalize x1.take wd = row at hr16 ok1 rl
          have lφ := iN.length
          refine ⟨_, rfl, r1, rfl, ⟨_, SqT.of hr16⟩, fun D hD => lc_tup (K := K) (a := r1) (xs := row.map V.int) (fun j H' => Same H6 H' ∧ H' D = some (.lst (((row.take j).map (fφ φ)).map V.int))) ⟨Same.new hD, upd_same⟩ (fun j H' _ h => SqT.of (h.1 _ _ hr16)) ?_ ?_⟩
          · rintro j y H7 hy ⟨s7, hD7⟩
            rw [List.getElem?_map] at hy
            obtain ⟨b, hb, rfl⟩ := Option.map_eq_some_iff.mp hy
            have hj := (List.getElem?_eq_some_iff.mp hb).1
            have hbi := ok1.inn b (List.mem_of_getElem? hb)
            have hb0 := hbi.1
            refine ⟨rfl, _, rfl, _, rfl, q, _, _, _, rfl, rfl, SqT.of (s7 _ _ hq6), at_of (j := b.toNat) (by omega) (by rw [List.getElem?_map, fφ_get iN hbi]; rfl), _, hD7, ?_, same_set2 s7 hD, ?_⟩
            · rw [List.length_map, List.length_map, List.length_take]; exact small1000 (by omega)
            · rw [upd_same, List.take_succ, hb]; simp
          · rintro H7 ⟨s7, hD7⟩
            rw [List.length_map, List.take_length] at hD7
            refine ⟨D, _, rfl, .inl ⟨SqL.of hD7, fun u hu => ?_⟩⟩
            have s8 := s7.step (o := .tup ((row.map (fφ φ)).map V.int)) hu
            exact rest _ _ ⟨u, row.map (fφ φ), rfl, (S6.same s8).more (by omega), kk6.trans s8.keep, s8 _ _ h16, upd_same, rowOk_img N ok1⟩
    case r =>
    obtain ⟨r2', row2, rfl, S7, k7, h1, h2, ok2⟩ := ff
    refine ⟨_, rfl, _, rfl, (by show 2 ≤ sizeLine; decide), fun t ht => ?_⟩
    have s8 := Same.new (o := .lst [.ref r1, .ref r2']) ht
    exact fin t r1 r2' _ row2 _ upd_same (s8 _ _ h1) (s8 _ _ h2) (rowOk_isN i1 wd) ok2 (S7.same s8) (k7.trans s8.keep)
end
end Kx
namespace Kx
open PySem L2
def dPr (m : Nat) (cs : List Int) (M : Nat → Nat → Int) : PyData := .list [.tuple (cs.map PyData.int), .list ((List.range m).map fun a => .list (((List.range m).map (M a)).map PyData.int))]
theorem can_pr (m : Nat) (cs : List Int) (M : Nat → Nat → Int) : PyData.canLay0 (dPr m cs M) = true ∧ PyData.depth (dPr m cs M) ≤ 12 := by
  have can1 : ∀ l : List Int, PyData.canLayAll0 (l.map PyData.int) = true ∧ PyData.depthAll (l.map PyData.int) ≤ 1 := fun l => can_all (f := PyData.int) (l := l) (k := 1) fun x _ => ⟨rfl, by simp [PyData.depth]⟩
  obtain ⟨p, q⟩ := can1 cs
  obtain ⟨p', q'⟩ := can_all (f := fun a => PyData.list (((List.range m).map (M a)).map PyData.int)) (l := List.range m) (k := 2) fun a _ => by
    obtain ⟨x, y⟩ := can1 ((List.range m).map (M a))
    exact ⟨by simp only [PyData.canLay0]; exact x, by simp only [PyData.depth]; omega⟩
  refine ⟨by simp only [dPr, PyData.canLay0, PyData.canLayAll0, p, p', Bool.and_true], ?_⟩
  simp only [dPr, PyData.depth, PyData.depthAll]; omega
theorem dPr_congr {m : Nat} {cs : List Int} {M M' : Nat → Nat → Int} (h : ∀ a b, a < m → b < m → M a b = M' a b) : dPr m cs M = dPr m cs M' := by
  unfold dPr
  have : ((List.range m).map fun a => PyData.list (((List.range m).map (M a)).map PyData.int)) = (List.range m).map fun a => PyData.list (((List.range m).map (M' a)).map PyData.int) :=
    List.map_congr_left fun a ha => by
      rw [List.map_congr_left fun b hb => h a b (List.mem_range.mp ha) (List.mem_range.mp hb)]
  rw [this]
theorem PairAt.dp {K : PySem.W.Frag} {H : Hp} {p : Addr} {m : Nat} {cs : List Int} {M : Nat → Nat → Int} (h : PairAt H p m cs M) : Dp K H (.ref p) (dPr m cs M) := by
  obtain ⟨t, k, rs, a, b, g⟩ := h
  refine .lst (SqL.of a) (.cons (.tup (SqT.of b) (dpAll_ints _)) (.cons (.lst (SqL.of g.top) (dpAll_refs.mpr ?_)) .nil))
  have rl := g.len
  have row := g.row
  have go : ∀ (rs : List Addr) (o : Nat), (∀ (i : Nat) (r : Addr), rs[i]? = some r → H r = some (.lst (rowV m (IG M (o + i))))) → Paired (fun u d => Dp K H (.ref u) d) rs ((List.range' o rs.length).map fun a => .list (((List.range m).map (M a)).map PyData.int)) := by
    intro rs
    induction rs with
    | nil => intro o _; exact .nil
    | cons r rs ih =>
      intro o h
      have h0 := h 0 r rfl
      refine .cons ?_ ?_
      · have e : rowV m (IG M (o + 0)) = ((List.range m).map (M o)).map V.int := by unfold rowV; rw [List.map_map]; rfl
        rw [e] at h0
        exact .lst (SqL.of h0) (dpAll_ints _)
      · exact ih (o + 1) fun i r' hr => by
          have := h (i + 1) r' hr
          rw [show o + (i + 1) = o + 1 + i by omega] at this
          exact this
  have := go rs 0 fun i r hr => by rw [Nat.zero_add]; exact row i r hr
  rw [rl, ← List.range_eq_range'] at this
  exact this
theorem dPr_same {m : Nat} (m12 : m ≤ 12) {φ c1 c2 c3 : List Int} {M1 M2 M3 : Nat → Nat → Int} (iN : Nm.IsN m φ) (l2 : c2.length = m) (l3 : c3.length = m) (B2 : AlgC m (fφ φ) c1 c2) (A2 : Alg m (fφ φ) M1 M2) (B3 : AlgC m (fφ φ) c1 c3) (A3 : Alg m (fφ φ) M1 M3) : dPr m c2 M2 = dPr m c3 M3 := by
  have N := nam_of m12 iN
  have ec : c2 = c3 := by
    refine List.ext_getElem? fun i => ?_
    by_cases hi : i < m
    · obtain ⟨x, hx, e⟩ := N.sur (i : Int) ⟨by omega, by omega⟩
      have h2 := B2 x hx
      have h3 := B3 x hx
      rw [e, Int.toNat_natCast] at h2 h3
      rw [← h3, List.getD_eq_getElem?_getD, List.getD_eq_getElem?_getD, List.getElem?_eq_getElem (by omega), List.getElem?_eq_getElem (by omega)] at h2
      rw [List.getElem?_eq_getElem (by omega), List.getElem?_eq_getElem (by omega)]
      exact congrArg some h2
    · rw [List.getElem?_eq_none (by omega), List.getElem?_eq_none (by omega)]
  subst ec
  refine dPr_congr fun a b ha hb => ?_
  obtain ⟨x, hx, ex⟩ := N.sur (a : Int) ⟨by omega, by omega⟩
  obtain ⟨y, hy, ey⟩ := N.sur (b : Int) ⟨by omega, by omega⟩
  have h2 := A2 x y hx hy
  have h3 := A3 x y hx hy
  rw [ex, ey, Int.toNat_natCast, Int.toNat_natCast] at h2 h3
  rw [h2, h3]
end Kx
namespace Kx
open PySem L2
theorem dpL {K : PySem.W.Frag} {H : Hp} {a : Addr} {ns : List Int} (h : H a = some (.lst (ns.map V.int))) : Dp K H (.ref a) (.list (ns.map PyData.int)) := .lst (SqL.of h) (dpInts ns)
theorem canInts : ∀ ns : List Int, PyData.canLayAll0 (ns.map PyData.int) = true
  | [] => rfl
  | n :: ns => by simp only [List.map_cons, PyData.canLayAll0, PyData.canLay0, canInts ns, Bool.and_true]
theorem depthInts : ∀ ns : List Int, PyData.depthAll (ns.map PyData.int) ≤ 1
  | [] => by simp [PyData.depthAll]
  | n :: ns => by
    have := depthInts ns
    simp only [List.map_cons, PyData.depthAll, PyData.depth]; omega
theorem shapedL (ns : List Int) : SeqAt.shaped (.list (ns.map PyData.int)) = true := by
  have := depthInts ns
  unfold SeqAt.shaped
  rw [Bool.and_eq_true]
  exact ⟨by simp only [PyData.canLay0]; exact canInts ns, decide_eq_true (by simp only [PyData.depth]; omega)⟩
theorem shapedT (ns : List Int) : SeqAt.shaped (.tuple (ns.map PyData.int)) = true := by
  have := depthInts ns
  unfold SeqAt.shaped
  rw [Bool.and_eq_true]
  exact ⟨by simp only [PyData.canLay0]; exact canInts ns, decide_eq_true (by simp only [PyData.depth]; omega)⟩
def dRow (r : R3) : PyData := .tuple ((tlR r).map PyData.int)
def dCols (cols : List Int) : PyData := .tuple (cols.map PyData.int)
def dRows (E : List R3) : PyData := .tuple (E.map dRow)
theorem dpRow {K : PySem.W.Frag} {H : Hp} {t : Addr} {r : R3} (h : RowT H t r) : Dp K H (.ref t) (dRow r) := .tup (SqT.of h) (dpInts _)
theorem dpRowsAll {K : PySem.W.Frag} {H : Hp} : ∀ {ts : List Addr} {E : List R3}, Paired (RowT H) ts E → DpAll K H (ts.map V.ref) (E.map dRow)
  | _, _, .nil => .nil
  | _, _, .cons h t => .cons (dpRow h) (dpRowsAll t)
theorem dpRows {K : PySem.W.Frag} {H : Hp} {p : Addr} {ts : List Addr} {E : List R3} (h : H p = some (.tup (ts.map V.ref))) (hr : Paired (RowT H) ts E) : Dp K H (.ref p) (dRows E) := .tup (SqT.of h) (dpRowsAll hr)
theorem dpCols {K : PySem.W.Frag} {H : Hp} {p : Addr} {cols : List Int} (h : TI H p cols) : Dp K H (.ref p) (dCols cols) := .tup (SqT.of h) (dpInts _)
theorem eqvCols (a b : List Int) : PyData.eqv (dCols a) (dCols b) = decide (a = b) := by
  unfold dCols
  simp only [PyData.eqv]
  exact eqvAllI a b
theorem eqvRow (a b : R3) : PyData.eqv (dRow a) (dRow b) = decide (a = b) := by
  unfold dRow
  simp only [PyData.eqv]
  rw [eqvAllI, decide_eq_decide]
  obtain ⟨a1, a2, a3⟩ := a
  obtain ⟨b1, b2, b3⟩ := b
  simp [tlR]
theorem eqvRowsAll : ∀ a b : List R3, PyData.eqvAll (a.map dRow) (b.map dRow) = decide (a = b)
  | [], [] => rfl
  | [], _ :: _ => rfl
  | _ :: _, [] => rfl
  | x :: xs, y :: ys => by
    simp only [List.map_cons, PyData.eqvAll, eqvRow, eqvRowsAll xs ys]
    rw [Bool.eq_iff_iff]
    simp
theorem eqvRows (a b : List R3) : PyData.eqv (dRows a) (dRows b) = decide (a = b) := by
  unfold dRows
  simp only [PyData.eqv]
  exact eqvRowsAll a b
theorem canRow (r : R3) : PyData.canLay0 (dRow r) = true ∧ PyData.depth (dRow r) ≤ 2 := by
  have := depthInts (tlR r)
  exact ⟨by simp only [dRow, PyData.canLay0]; exact canInts _, by simp only [dRow, PyData.depth]; omega⟩
theorem canRows : ∀ E : List R3, PyData.canLayAll0 (E.map dRow) = true ∧ PyData.depthAll (E.map dRow) ≤ 2
  | [] => ⟨rfl, by simp [PyData.depthAll]⟩
  | r :: E => by
    obtain ⟨h1, h2⟩ := canRows E
    obtain ⟨g1, g2⟩ := canRow r
    refine ⟨by simp only [List.map_cons, PyData.canLayAll0, g1, h1, Bool.and_true], ?_⟩
    simp only [List.map_cons, PyData.depthAll]; omega
theorem shapedRows (E : List R3) : SeqAt.shaped (dRows E) = true := by
  obtain ⟨h1, h2⟩ := canRows E
  unfold SeqAt.shaped
  rw [Bool.and_eq_true]
  exact ⟨by simp only [dRows, PyData.canLay0]; exact h1, decide_eq_true (by simp only [dRows, PyData.depth]; omega)⟩
theorem OkR.vals {n : Nat} {r : R3} (h : OkR n r) (hn : n ≤ 12) : ∀ x ∈ tlR r, 0 ≤ x ∧ x ≤ 1000000000 := by
  have := h.a0; have := h.a1; have := h.b0; have := h.b1; have := h.m0; have := h.m1
  intro x hx
  simp only [tlR, List.mem_cons, List.not_mem_nil, or_false] at hx
  rcases hx with rfl | rfl | rfl <;> omega
theorem rowsB {n : Nat} (hn : n ≤ 12) : ∀ {E : List R3}, (∀ r ∈ E, OkR n r) → PyData.showableAll (E.map dRow) = true ∧ PyData.leavesShortAll 40 (E.map dRow) = true ∧ PyData.weightAll (E.map dRow) ≤ 97 * E.length
  | [], _ => ⟨rfl, rfl, by simp [PyData.weightAll]⟩
  | r :: E, h => by
    obtain ⟨h1, h3, h4⟩ := rowsB hn fun x hx => h x (List.mem_cons_of_mem _ hx)
    obtain ⟨g1, g3, g4⟩ := intsB ((h r List.mem_cons_self).vals hn)
    have e3 : (tlR r).length = 3 := rfl
    refine ⟨?_, ?_, ?_⟩
    · simp only [List.map_cons, PyData.showableAll, dRow, PyData.showable, g1, h1, Bool.and_true]
    · simp only [List.map_cons, PyData.leavesShortAll, dRow, PyData.leavesShort, g3, h3, Bool.and_true]
    · simp only [List.map_cons, PyData.weightAll, List.length_cons]
      have : PyData.weight (dRow r) ≤ 96 := by simp only [dRow, PyData.weight]; omega
      omega
structure Txts (cols : List Int) (E : List R3) : Prop where
  c : ShownB (dCols cols)
  r : ShownB (dRows E)
  lc : (dCols cols).shown.length ≤ 20000
  lr : (dRows E).shown.length ≤ 2000000
theorem WOk.txts {cols : List Int} {E : List R3} (h : WOk cols E) : Txts cols E := by
  obtain ⟨a1, a2, a3⟩ := intsB h.col
  obtain ⟨b1, b2, b3⟩ := rowsB h.len h.row
  have := h.len
  have := h.few
  have d1 := depthInts cols
  obtain ⟨_, d2⟩ := canRows E
  have w1 : (dCols cols).weight ≤ 400 := by simp only [dCols, PyData.weight]; omega
  have w2 : (dRows E).weight ≤ 14000 := by simp only [dRows, PyData.weight]; omega
  have l1 : (dCols cols).leavesShort 40 = true := by simp only [dCols, PyData.leavesShort]; exact a2
  have l2 : (dRows E).leavesShort 40 = true := by simp only [dRows, PyData.leavesShort]; exact b2
  have s1 := PyData.shown_le 40 (by decide) _ l1
  have s2 := PyData.shown_le 40 (by decide) _ l2
  refine ⟨.of (by simp only [dCols, PyData.showable]; exact a1) (by simp only [dCols, PyData.depth]; omega) l1 (by omega), .of (by simp only [dRows, PyData.showable]; exact b1) (by simp only [dRows, PyData.depth]; omega) l2 (by omega), by omega, by omega⟩
def repW (cols : List Int) (E : List R3) : Str := ((((Str.empty ++ ("Web(" : Str)) ++ (dCols cols).shown) ++ (", " : Str)) ++ (dRows E).shown) ++ (")" : Str)
def sp_Wrepr (c : Addr) : Sp := fun vs H Q _ => ∃ (a : Addr) (cols : List Int) (E : List R3), vs = [.ref a] ∧ WebAt c H a cols E ∧ WOk cols E ∧ Q (.str (repW cols E)) H
def sp_Weq (c : Addr) : Sp := fun vs H Q _ => ∃ (a : Addr) (y : V) (cols : List Int) (E : List R3), vs = [.ref a, y] ∧ WebAt c H a cols E ∧
  ((∃ k, kdOf H y = some k ∧ Q (.bl false) H) ∨ ∃ b cols' E', y = .ref b ∧ WebAt c H b cols' E' ∧ Q (.bl (decide (cols = cols') && decide (E = E'))) H)
section
variable {P : Program} {w : World} {K : PySem.W.Frag} {mg : Str → Option Value} {base : Heap} {c : Addr}
theorem sc_Wrepr : FnScope ["self"] ["self"] (defScope s_Wrepr) := ⟨rfl, rfl, rfl, by decide +kernel, rfl, by decide +kernel, by decide +kernel⟩
theorem ok_Wrepr {f : Addr} {fd : FuncData} (F : Fun K "__repr__" "Web.__repr__" s_Wrepr f fd) (T : Txt mg) (W : WebC K mg c) : FnOk P w K mg base CX0 1 f fd ["self"] (sp_Wrepr c) := by
  refine F.ok sc_Wrepr (fun vs H Q E h => ?_) (fun cdv A outer s H vs Q E0' hr h => ?_)
  · obtain ⟨a, cols, E, rfl, _⟩ := h
    rfl
  · have nd := sc_Wrepr.nd
    obtain ⟨a, cols, E, rfl, ⟨dx, p1, p2, p3, ts, h1, h2, h3, h4, h5⟩, ok, fin⟩ := h
    have tx := ok.txts
    have l1 := tx.lc
    have l2 := tx.lr
    refine ⟨_, (pss_one (ps_ret (pe_joined (pj_cons pe_str (pj_cons (pe_fmtB hr.gd hr.units (K := K) (pe_fldK (K := K) (pv 0))) (pj_cons pe_str (pj_cons (pe_fmtB hr.gd hr.units (K := K) (pe_fldK (K := K) (pv 0))) (pj_cons pe_str pj_nil)))))))), ?_⟩
    have z0 : (Str.empty ++ ("Web(" : Str)).length = 4 := by decide
    have z1 : (", " : Str).length = 2 := by decide
    have z2 : (")" : Str).length = 1 := by decide
    have y1 : (Str.empty ++ ("Web(" : Str) ++ (dCols cols).shown).length ≤ 21000 := by rw [strLen_append, z0]; omega
    have y2 : (Str.empty ++ ("Web(" : Str) ++ (dCols cols).shown ++ (", " : Str)).length ≤ 22000 := by rw [strLen_append, z1]; omega
    have y3 : (Str.empty ++ ("Web(" : Str) ++ (dCols cols).shown ++ (", " : Str) ++ (dRows E).shown).length ≤ 3000000 := by rw [strLen_append]; omega
    have y4 : (repW cols E).length ≤ 4000000 := by unfold repW; rw [strLen_append, z2]; omega
    refine ⟨_, rfl, by rw [z0]; decide, _, rfl, a, c, dx, _, _, rfl, h1, W.cls, W.nC, rfl, p1, dCols cols, rfl, dpCols h2, tx.c, _, rfl, Nat.le_trans y1 (by decide), _, rfl, Nat.le_trans y2 (by decide), ?_⟩
    exact ⟨_, rfl, a, c, dx, _, _, rfl, h1, W.cls, W.nA, rfl, p2, dRows E, rfl, dpRows h3 h4, tx.r, _, rfl, Nat.le_trans y3 (by decide), _, rfl, Nat.le_trans y4 (by decide), Nat.le_trans y4 (by decide), fin⟩
theorem sc_Weq : FnScope ["self", "other"] ["self", "other"] (defScope s_Weq) := ⟨rfl, rfl, rfl, by decide +kernel, rfl, by decide +kernel, by decide +kernel⟩
theorem ok_Weq {f : Addr} {fd : FuncData} (F : Fun K "__eq__" "Web.__eq__" s_Weq f fd) (T : Txt mg) (W : WebC K mg c) : FnOk P w K mg base CX0 1 f fd ["self", "other"] (sp_Weq c) := by
  refine F.ok sc_Weq (fun vs H Q E h => ?_) (fun cdv A outer s H vs Q E0' hr h => ?_)
  · obtain ⟨a, y, cols, E, rfl, _⟩ := h
    rfl
  · have nd := sc_Weq.nd
    obtain ⟨a, y, cols, E, rfl, ⟨dx, p1, p2, p3, ts, h1, h2, h3, h4, h5⟩, h⟩ := h
    refine ⟨_, (pss_one (ps_ret (pe_and (pe_callB (cr_isC (K := K) (C := c)) (by rfl) T.isinstance (by decide +kernel) (pa_cons (pv 1) (pa_cons (pe_glob (v := .ref c) (by rfl) W.Web rfl) pa_nil))) (pe_and (pe_cmpR (op_eqDK (K := K) hr.units) (pe_fldK (K := K) (pv 0)) (pe_fldK (K := K) (pv 1)) (nomark _)) (pe_one (pe_cmpR (op_eqDK (K := K) hr.units) (pe_fldK (K := K) (pv 0)) (pe_fldK (K := K) (pv 1)) (nomark _))))))), ?_⟩
    rcases h with ⟨k, hk, fin⟩ | ⟨b, cols', E', rfl, ⟨dy, q1, q2, q3, us, g1, g2, g3, g4, g5⟩, fin⟩
    · exact ⟨_, rfl, y, _, _, rfl, kd_ty (K := K) hk, W.kd k, _, rfl, fin⟩
    · refine ⟨_, rfl, .ref b, _, _, rfl, .ins g1 W.cls W.cl W.gt W.tk W.ob, W.self, _, rfl, ?_⟩
      refine ⟨_, rfl, a, c, dx, _, _, rfl, h1, W.cls, W.nC, rfl, _, rfl, b, c, dy, _, _, rfl, g1, W.cls, W.nC, rfl, _, _, dpCols h2, dpCols g2, shapedT _, shapedT _, _, rfl, ?_⟩
      rw [eqvCols]
      by_cases e1 : cols = cols'
      · rw [decide_eq_true e1] at fin ⊢
        rw [Bool.true_and] at fin
        refine ⟨_, rfl, a, c, dx, _, _, rfl, h1, W.cls, W.nA, rfl, _, rfl, b, c, dy, _, _, rfl, g1, W.cls, W.nA, rfl, _, _, dpRows h3 h4, dpRows g3 g4, shapedRows _, shapedRows _, ?_⟩
        rw [eqvRows]; exact fin
      · rw [decide_eq_false e1] at fin ⊢
        rw [Bool.false_and] at fin
        exact fin
end
end Kx
namespace Kx
open PySem L2
theorem kdOf_tup {H : Hp} {a : Addr} {xs : List V} (h : H a = some (.tup xs)) : kdOf H (.ref a) = some .tup := by unfold kdOf; simp only [h]
theorem kdOf_lst {H : Hp} {a : Addr} {xs : List V} (h : H a = some (.lst xs)) : kdOf H (.ref a) = some .lst := by unfold kdOf; simp only [h]
theorem kdOf_dK {H : Hp} {a : Addr} {xs : List (Key × V)} (h : H a = some (.dK xs)) : kdOf H (.ref a) = some .dct := by unfold kdOf; simp only [h]
theorem kd_isI {H : Hp} {x : V} {k : Kd} (h : kdOf H x = some k) : decide (k = Kd.int) = isI x := by
  cases x with
  | int i => cases h; rfl
  | non => cases h; rfl
  | bl b => cases h; rfl
  | str z => cases h; rfl
  | byt _ => cases h
  | flt _ => cases h
  | ty _ => cases h
  | ref a =>
    have : k ≠ Kd.int := fun e => by
      obtain ⟨i, z⟩ := (kd_int h).mp e
      cases z
    rw [decide_eq_false this]
    rfl
abbrev Seq (H : Hp) (a : Addr) (xs : List V) : Prop := H a = some (.lst xs) ∨ H a = some (.tup xs)
def Kds (H : Hp) (xs : List V) : Prop := ∀ y ∈ xs, ∃ k, kdOf H y = some k
theorem Kds.same {H H' : Hp} {xs : List V} (h : Kds H xs) (s : Same H H') : Kds H' xs := fun y hy => let ⟨k, e⟩ := h y hy; ⟨k, kdOf_same s e⟩
theorem lcS {K : PySem.W.Frag} {a : Addr} {xs : List V} {g : TG} {tt : TT} {te : TE} {vs : List Nat} {σ : St} {H1 : Hp} {Qd : Addr → Hp → Prop} (hq : Seq H1 a xs) (Pv : Addr → Nat → Hp → Prop) (h0 : ∀ D, H1 D = none → Pv D 0 (upd H1 D (.lst []))) (hl : ∀ D i H o, Pv D i H → H1 a = some o → H a = some o)
    (hs : ∀ D i x H, H1 D = none → xs[i]? = some x → Pv D i H → g x (wipe σ vs) H fun σ2 H2 => wipe σ2 vs = wipe σ vs ∧ tt σ2 H2 fun b H3 =>
      if b = true then te σ2 H3 fun y H4 => ∃ acc, H4 D = some (.lst acc) ∧ acc.length < sizeLine ∧ Pv D (i + 1) (upd H4 D (.lst (acc ++ [y]))) else Pv D (i + 1) H3) (hd : ∀ D H, H1 D = none → Pv D xs.length H → Qd D H) :
    ∃ a', V.ref a = V.ref a' ∧ (((∃ ys, SqL K H1 a' ys) ∧ ∀ D, H1 D = none → ∃ W : Nat → Nat → Hp → Prop, (∃ m, W 0 m (upd H1 D (.lst []))) ∧ ∀ i m H, W i m H →
      ((Itl K a').stop i H ∧ Qd D H) ∨ ((Itl K a').go i H ∧ ∃ Nx : Hp → Prop, (∀ H', Nx H' → ∃ m', m' < m ∧ W (i + 1) m' H') ∧ ∀ x H', (Itl K a').yld i H x H' → g x (wipe σ vs) H' fun σ2 H2 => wipe σ2 vs = wipe σ vs ∧ tt σ2 H2 fun b H3 =>
        if b = true then te σ2 H3 fun y H4 => ∃ acc, H4 D = some (.lst acc) ∧ acc.length < sizeLine ∧ Nx (upd H4 D (.lst (acc ++ [y]))) else Nx H3)) ∨
      ((∃ ys, SqT K H1 a' ys) ∧ ∀ D, H1 D = none → ∃ W : Nat → Nat → Hp → Prop, (∃ m, W 0 m (upd H1 D (.lst []))) ∧ ∀ i m H, W i m H →
      ((Itt K a').stop i H ∧ Qd D H) ∨ ((Itt K a').go i H ∧ ∃ Nx : Hp → Prop, (∀ H', Nx H' → ∃ m', m' < m ∧ W (i + 1) m' H') ∧ ∀ x H', (Itt K a').yld i H x H' → g x (wipe σ vs) H' fun σ2 H2 => wipe σ2 vs = wipe σ vs ∧ tt σ2 H2 fun b H3 =>
        if b = true then te σ2 H3 fun y H4 => ∃ acc, H4 D = some (.lst acc) ∧ acc.length < sizeLine ∧ Nx (upd H4 D (.lst (acc ++ [y]))) else Nx H3))) := by
  refine ⟨a, rfl, ?_⟩
  rcases hq with h | h
  · exact .inl ⟨⟨_, SqL.of h⟩, fun D hD => lc_list (K := K) (Pv D) (h0 D hD) (fun i H _ p => SqL.of (hl D i H _ p h)) (fun i x H hx p => hs D i x H hD hx p) (fun H p => hd D H hD p)⟩
  · exact .inr ⟨⟨_, SqT.of h⟩, fun D hD => lc_tup (K := K) (Pv D) (h0 D hD) (fun i H _ p => SqT.of (hl D i H _ p h)) (fun i x H hx p => hs D i x H hD hx p) (fun H p => hd D H hD p)⟩
def sp_iswhole2 : Sp := fun vs H Q _ => ∃ (x : V) (k : Kd), vs = [x] ∧ kdOf H x = some k ∧ Q (.bl (isI x)) H
def sp_eachonce : Sp := fun vs H Q _ => ∃ (a : Addr) (xs : List V), vs = [.ref a] ∧ Seq H a xs ∧ xs.length ≤ 40 ∧ Kds H xs ∧ ∀ (H' : Hp), Same H H' → Q (.bl (onceV xs)) H'
structure Kind (H : Hp) (x : V) : Prop where
  kd : ∃ k, kdOf H x = some k
  el : ∀ a xs, x = .ref a → Seq H a xs → xs.length ≤ 40 ∧ Kds H xs
  nf : ∀ a o u, x = .ref a → H a ≠ some (.frz o u)
theorem Kind.same {H H' : Hp} {x : V} (h : Kind H x) (s : Same H H') : Kind H' x := by
  obtain ⟨k, hk⟩ := h.kd
  refine ⟨⟨k, kdOf_same s hk⟩, fun a xs e hs => ?_, fun a o u e z => ?_⟩
  rotate_left
  · subst e
    cases eo : H a with
    | none => unfold kdOf at hk; simp only [eo] at hk; cases hk
    | some o' =>
      rw [s _ _ eo] at z
      cases z
      exact h.nf a o u rfl eo
  subst e
  cases eo : H a with
  | none => unfold kdOf at hk; simp only [eo] at hk; cases hk
  | some o =>
    have e2 := s _ _ eo
    have hs' : Seq H a xs := by
      rcases hs with z | z
      · rw [e2] at z; cases z; exact .inl eo
      · rw [e2] at z; cases z; exact .inr eo
    exact ⟨(h.el a xs rfl hs').1, (h.el a xs rfl hs').2.same s⟩
def namV (H : Hp) (m : Int) : V → Bool
  | .ref a => match H a with
    | some (.tup xs) => decide ((xs.length : Int) = m) && onceV xs
    | _ => false
  | _ => false
def goodV (H : Hp) : V → Bool
  | .ref a => match H a with
    | some (.tup xs) => decide (xs.length ≤ 12) && onceV xs
    | some (.lst xs) => decide (xs.length ≤ 12) && onceV xs
    | _ => false
  | _ => false
theorem kind_cases {H : Hp} {x : V} {k : Kd} (hk : kdOf H x = some k) : (k = .tup ∧ ∃ a xs, x = .ref a ∧ H a = some (.tup xs)) ∨ (k = .lst ∧ ∃ a xs, x = .ref a ∧ (H a = some (.lst xs) ∨ ∃ o, H a = some (.frz o (.lst xs)))) ∨ (k ≠ .tup ∧ k ≠ .lst ∧ goodV H x = false ∧ ∀ m, namV H m x = false) := by
  cases x with
  | ref a =>
    unfold kdOf at hk
    simp only at hk
    split at hk
    next xs e => cases hk; exact .inr (.inl ⟨rfl, a, xs, rfl, .inl e⟩)
    next o xs e => cases hk; exact .inr (.inl ⟨rfl, a, xs, rfl, .inr ⟨o, e⟩⟩)
    next xs e => cases hk; exact .inl ⟨rfl, a, xs, rfl, e⟩
    next kvs e => cases hk; exact .inr (.inr ⟨(by decide), (by decide), by unfold goodV; simp only [e], fun m => by unfold namV; simp only [e]⟩)
    next kvs e => cases hk; exact .inr (.inr ⟨(by decide), (by decide), by unfold goodV; simp only [e], fun m => by unfold namV; simp only [e]⟩)
    next => cases hk
  | non => cases hk; exact .inr (.inr ⟨(by decide), (by decide), rfl, fun _ => rfl⟩)
  | bl b => cases hk; exact .inr (.inr ⟨(by decide), (by decide), rfl, fun _ => rfl⟩)
  | int i => cases hk; exact .inr (.inr ⟨(by decide), (by decide), rfl, fun _ => rfl⟩)
  | str z => cases hk; exact .inr (.inr ⟨(by decide), (by decide), rfl, fun _ => rfl⟩)
  | byt _ => cases hk
  | flt _ => cases hk
  | ty _ => cases hk
section
variable {P : Program} {w : World} {K : PySem.W.Frag} {mg : Str → Option Value} {base : Heap}
theorem sc_eachonce : FnScope ["things", "thing"] ["things"] (defScope s_eachonce) := ⟨rfl, rfl, rfl, by decide +kernel, rfl, by decide +kernel, by decide +kernel⟩
theorem ok_eachonce {f : Addr} {fd : FuncData} (F : Fun K "has_each_once" "has_each_once" s_eachonce f fd) (T : Txt mg) (F_iswhole : Fn P w K mg base "is_whole" 1 ["thing"] sp_iswhole2) : FnOk P w K mg base CX0 2 f fd ["things"] sp_eachonce := by
  refine F.ok sc_eachonce (fun vs H Q E h => ?_) (fun cdv A outer s H vs Q E hr h => ?_)
  · obtain ⟨a, xs, rfl, _⟩ := h
    rfl
  · have nd := sc_eachonce.nd
    obtain ⟨a, xs, rfl, hq, hl, hk, fin⟩ := h
    refine ⟨_, (pss_one (ps_ret (pe_and (pe_callB (cr_allK (K := K) rfl) (by rfl) T.all (by decide +kernel) (pa_cons (pe_lc (own := [("thing", 1)]) (g := gName 1) (by rfl) nd (pi_seqK (K := K) (pv 0)) (blkOk_by (own := [("thing", 1)]) (N := ["things", "thing"]) (sc := defScope s_eachonce) (by decide +kernel)) (fun _ _ _ _ _ => (pg_name (i := 1) nd rfl (Or.inl rfl))) (fun _ _ _ _ _ => pts_nil) (fun _ _ _ _ _ => (pe_fn F_iswhole hr (pa_cons (pv 1) pa_nil)))) pa_nil)) (pe_one (pe_cmpR (op_eqDK (K := K) hr.units) (pe_callB (cr_sortedQ (K := K)) (by rfl) T.sorted (by decide +kernel) (pa_cons (pv 0) pa_nil)) (pe_callTy (cr_list_rng hr.hd) (by rfl) T.list (by decide +kernel) (pa_cons (pe_callTy cr_range1 (by rfl) T.range (by decide +kernel) (pa_cons (pe_callB (call_lenK (K := K)) (by rfl) T.len (by decide +kernel) (pa_cons (pv 0) pa_nil)) pa_nil)) pa_nil)) (nomark _)))))), ?_⟩
    refine ⟨_, rfl, lcS (K := K) hq (fun D i H' => Same H H' ∧ H' D = some (.lst (((xs.take i).map isI).map V.bl))) (fun D hD => ⟨Same.new hD, upd_same⟩) (fun D i H' o p e => p.1 _ _ e) ?_ ?_⟩
    · rintro D i x H' hD hx ⟨hS, hDl⟩
      obtain ⟨k, hkx⟩ := hk x (List.mem_of_getElem? hx)
      have hi := (List.getElem?_eq_some_iff.mp hx).1
      refine ⟨rfl, _, rfl, x, k, rfl, kdOf_same hS hkx, _, hDl, ?_, fun b o e => ?_, ?_⟩
      · rw [List.length_map, List.length_map, List.length_take]; exact small1000 (by omega)
      · rw [upd_ne (ne_of_none e hD)]; exact hS _ _ e
      · rw [upd_same, List.take_succ, hx]; simp
    · rintro D H' hD ⟨hS, hDl⟩
      rw [List.take_length] at hDl
      refine ⟨D, _, rfl, SqL.of hDl, _, rfl, ?_⟩
      have e : (xs.map isI).all id = xs.all isI := by rw [List.all_map]; rfl
      rw [e]
      cases hall : xs.all isI with
      | false =>
        have fin : Q (.bl (onceV xs)) H' := fin H' hS
        unfold onceV at fin
        rw [hall] at fin
        exact fin
      | true =>
        have ei := ints_of hall
        have hq2 : SqL K H' a ((xs.map toI).map V.int) ∨ SqT K H' a ((xs.map toI).map V.int) := by
          rw [ei]
          exact hq.imp (fun z => SqL.of (hS _ _ z)) (fun z => SqT.of (hS _ _ z))
        refine ⟨_, rfl, a, xs.map toI, rfl, hq2, by rw [List.length_map]; omega, fun ns' p pm up hp => ?_⟩
        have s2 : Same H' (upd H' p (.lst (ns'.map V.int))) := Same.new hp
        refine ⟨_, rfl, a, xs, rfl, (hq.imp (fun z => SqL.of (s2 _ _ (hS _ _ z))) (fun z => SqT.of (s2 _ _ (hS _ _ z)))), _, rfl, fun p2 hp2 => ⟨p2, _, rfl, upd_same, by omega, by omega, fun p3 hp3 => ?_⟩⟩
        have s3 : Same H' (upd (upd (upd H' p (.lst (ns'.map V.int))) p2 (.rng 0 (xs.length : Int))) p3 (.lst ((Nm.upTo ((xs.length : Nat) : Int).toNat).map V.int))) := (s2.step hp2).step hp3
        have e3 : ((xs.length : Nat) : Int).toNat = xs.length := by omega
        refine ⟨.list (ns'.map PyData.int), .list ((Nm.upTo xs.length).map PyData.int), dpL ((Same.new hp3) _ _ ((Same.new hp2) _ _ upd_same)), ?_, shapedL _, shapedL _, ?_⟩
        · have z : upd (upd (upd H' p (.lst (ns'.map V.int))) p2 (.rng 0 (xs.length : Int))) p3 (.lst ((Nm.upTo ((xs.length : Nat) : Int).toNat).map V.int)) p3 = some (.lst ((Nm.upTo xs.length).map V.int)) := by rw [upd_same, e3]
          exact dpL z
        · rw [eqvLI, once_sorted pm up]
          have fin := fin _ (hS.trans s3)
          unfold onceV at fin
          rw [hall, Bool.true_and] at fin
          exact fin
end
theorem iswhole2 {P : Program} {w : World} {K : PySem.W.Frag} {mg : Str → Option Value} {base : Heap} (F : Fn P w K mg base "is_whole" 1 ["thing"] sp_iswhole) : Fn P w K mg base "is_whole" 1 ["thing"] sp_iswhole2 := by
  obtain ⟨f, fd, h1, h2, h3, h4⟩ := F.ex
  refine ⟨f, fd, h1, h2, h3, ⟨fun vs H Q E h => ?_, fun A outer s H args us vs Q E hr e b r h => h4.run A outer s H args us vs Q E hr e b r ?_⟩⟩
  · obtain ⟨x, k, rfl, _⟩ := h
    rfl
  · obtain ⟨x, k, rfl, hk, q⟩ := h
    exact ⟨x, k, rfl, hk, by rw [kd_isI hk]; exact q⟩
theorem kd_some {H : Hp} {a : Addr} {k : Kd} (h : kdOf H (.ref a) = some k) : ∃ o, H a = some o := by
  cases e : H a with
  | none => unfold kdOf at h; simp only [e] at h; cases h
  | some o => exact ⟨o, rfl⟩
theorem namV_same {H H' : Hp} (s : Same H H') {x : V} (h : Kind H x) (m : Int) : namV H' m x = namV H m x := by
  cases x with
  | ref a =>
    obtain ⟨k, hk⟩ := h.kd
    obtain ⟨o, ho⟩ := kd_some hk
    unfold namV
    simp only [ho, s _ _ ho]
  | _ => rfl
def nmI (f : List Int) (x : Int) : Int := f.getD x.toNat 0
def renC (f cols : List Int) : List Int := Nm.thenF (Nm.backF f) cols
def renR (f : List Int) (r : R3) : R3 := (nmI f r.1, nmI f r.2.1, r.2.2)
def renE (f : List Int) (E : List R3) : List R3 := E.map (renR f)
theorem nmI_in {n : Nat} {f : List Int} (h : Nm.IsN n f) {x : Int} (h0 : 0 ≤ x) (h1 : x < n) : 0 ≤ nmI f x ∧ nmI f x < n := by
  have hl := h.length
  have hx : x.toNat < f.length := by omega
  unfold nmI
  rw [List.getD_eq_getElem?_getD, List.getElem?_eq_getElem hx]
  exact h.mem.mp (List.getElem_mem hx)
theorem nmI_inj {n : Nat} {f : List Int} (h : Nm.IsN n f) {x y : Int} (h0 : 0 ≤ x) (h1 : x < n) (h2 : 0 ≤ y) (h3 : y < n) (e : nmI f x = nmI f y) : x = y := by
  have hl := h.length
  have hx : x.toNat < f.length := by omega
  have hy : y.toNat < f.length := by omega
  unfold nmI at e
  rw [List.getD_eq_getElem?_getD, List.getElem?_eq_getElem hx, List.getD_eq_getElem?_getD, List.getElem?_eq_getElem hy] at e
  have e2 : f[x.toNat] = f[y.toNat] := e
  have i1 := h.nodup.idxOf_getElem x.toNat hx
  have i2 := h.nodup.idxOf_getElem y.toNat hy
  rw [e2, i2] at i1
  omega
theorem renC_length {n : Nat} {f cols : List Int} (h : Nm.IsN n f) : (renC f cols).length = n := by
  unfold renC
  rw [Nm.then_length, Nm.back_length, h.length]
theorem renC_at {n : Nat} {f cols : List Int} (h : Nm.IsN n f) (hc : cols.length = n) {a : Nat} (ha : a < n) : (renC f cols)[(nmI f a).toNat]? = cols[a]? := by
  have hl := h.length
  have hin := nmI_in h (x := a) (by omega) (by omega)
  have hi : (nmI f a).toNat < f.length := by omega
  have haf : a < f.length := by omega
  have hg := Nm.back_get (f := f) (c := (nmI f a).toNat) hi
  have e1 : (((nmI f a).toNat : Nat) : Int) = f[a] := by
    have : nmI f a = f[a] := by
      unfold nmI
      rw [Int.toNat_natCast, List.getD_eq_getElem?_getD, List.getElem?_eq_getElem haf]; rfl
    omega
  have e2 : f.idxOf f[a] = a := h.nodup.idxOf_getElem a haf
  rw [e1, e2] at hg
  unfold renC Nm.thenF
  rw [List.getElem?_map, hg]
  show some (cols.getD (a : Int).toNat 0) = cols[a]?
  rw [Int.toNat_natCast, List.getD_eq_getElem?_getD, List.getElem?_eq_getElem (by omega : a < cols.length)]
  rfl
theorem nmI_onto {n : Nat} {f : List Int} (h : Nm.IsN n f) {i : Nat} (hi : i < n) : ∃ a : Nat, a < n ∧ nmI f a = i := by
  have hm : (i : Int) ∈ f := h.mem.mpr (by omega)
  have hx : f.idxOf (i : Int) < f.length := List.idxOf_lt_length_of_mem hm
  refine ⟨f.idxOf (i : Int), by rw [← h.length]; exact hx, ?_⟩
  unfold nmI
  rw [Int.toNat_natCast, List.getD_eq_getElem?_getD, List.getElem?_eq_getElem hx]
  simp
theorem OkR.ren {n : Nat} {f : List Int} (h : Nm.IsN n f) {r : R3} (o : OkR n r) : OkR n (renR f r) :=
  ⟨(nmI_in h o.a0 o.a1).1, (nmI_in h o.a0 o.a1).2, (nmI_in h o.b0 o.b1).1, (nmI_in h o.b0 o.b1).2, fun e => o.ne (nmI_inj h o.a0 o.a1 o.b0 o.b1 e), o.m0, o.m1⟩
theorem renR_inj {n : Nat} {f : List Int} (h : Nm.IsN n f) {r r' : R3} (o : OkR n r) (o' : OkR n r') (e : prR (renR f r) = prR (renR f r')) : prR r = prR r' := by
  simp only [prR, renR, Prod.mk.injEq] at e ⊢
  exact ⟨nmI_inj h o.a0 o.a1 o'.a0 o'.a1 e.1, nmI_inj h o.b0 o.b1 o'.b0 o'.b1 e.2⟩
theorem ren_nd {n : Nat} {f : List Int} (h : Nm.IsN n f) {E : List R3} (ok : ∀ r ∈ E, OkR n r) (nd : (E.map prR).Nodup) : ((renE f E).map prR).Nodup := by
  unfold renE
  rw [List.map_map, List.nodup_iff_pairwise_ne, List.pairwise_map]
  rw [List.nodup_iff_pairwise_ne, List.pairwise_map] at nd
  exact nd.imp_of_mem fun {x y} hx hy hne e => hne (renR_inj h (ok x hx) (ok y hy) e)
theorem WOk.ren {cols f : List Int} {E : List R3} (h : WOk cols E) (hf : Nm.IsN cols.length f) : WOk (renC f cols) (renE f E) := by
  have hl := renC_length (cols := cols) hf
  refine ⟨by rw [hl]; exact h.len, fun x hx => ?_, fun r hr => ?_, ren_nd hf h.row h.nd⟩
  · obtain ⟨i, hi, rfl⟩ := List.mem_iff_getElem.mp hx
    rw [hl] at hi
    obtain ⟨a, ha, e⟩ := nmI_onto hf hi
    have := renC_at (cols := cols) hf rfl ha
    rw [e, Int.toNat_natCast, List.getElem?_eq_getElem (by rw [hl]; exact hi), List.getElem?_eq_getElem ha] at this
    injection this with this
    rw [this]
    exact h.col _ (List.getElem_mem ha)
  · obtain ⟨s, hs, rfl⟩ := List.mem_map.mp hr
    rw [hl]
    exact (h.row s hs).ren hf
theorem once_ints {xs : List V} (h : onceV xs = true) : (xs.map toI).map V.int = xs ∧ Nm.IsN xs.length (xs.map toI) := by
  unfold onceV at h
  rw [Bool.and_eq_true] at h
  exact ⟨ints_of h.1, of_decide_eq_true (p := (xs.map toI).Perm (Nm.upTo xs.length)) h.2⟩
theorem nam_ints {H : Hp} {n : Nat} {x : V} (h : namV H (n : Int) x = true) : ∃ q f, x = .ref q ∧ TI H q f ∧ Nm.IsN n f := by
  cases x with
  | ref a =>
    unfold namV at h
    simp only at h
    split at h
    next xs e =>
      rw [Bool.and_eq_true] at h
      have hl : (xs.length : Int) = n := of_decide_eq_true h.1
      obtain ⟨e1, e2⟩ := once_ints h.2
      have : xs.length = n := by omega
      rw [this] at e2
      exact ⟨a, xs.map toI, rfl, by show H a = _; rw [e1]; exact e, e2⟩
    next => cases h
  | _ => cases h
theorem perm_of_sub {α : Type} [DecidableEq α] : ∀ {l m : List α}, l.Nodup → (∀ x ∈ l, x ∈ m) → m.length ≤ l.length → l.Perm m
  | [], m, _, _, h => by
    have : m = [] := List.eq_nil_of_length_eq_zero (by simpa using h)
    rw [this]
  | x :: l, m, h, s, e => by
    have h2 := List.nodup_cons.mp h
    have hx := s x List.mem_cons_self
    have le := List.length_erase_of_mem hx
    rw [List.length_cons] at e
    have := perm_of_sub (l := l) (m := m.erase x) h2.2 (fun y hy => (List.mem_erase_of_ne (fun z => h2.1 (by rw [← z]; exact hy))).mpr (s y (List.mem_cons_of_mem _ hy))) (by omega)
    exact (this.cons x).trans (List.perm_cons_erase hx).symm
theorem kind_tup {H : Hp} {a : Addr} {xs : List V} (h : H a = some (.tup xs)) (l : xs.length ≤ 40) (k : Kds H xs) : Kind H (.ref a) := by
  refine ⟨⟨_, kdOf_tup h⟩, fun b ys e hq => ?_, fun b o u e z => ?_⟩
  · cases e
    rcases hq with z | z <;> rw [h] at z <;> cases z
    exact ⟨l, k⟩
  · cases e; rw [h] at z; cases z
theorem kind_lst {H : Hp} {a : Addr} {xs : List V} (h : H a = some (.lst xs)) (l : xs.length ≤ 40) (k : Kds H xs) : Kind H (.ref a) := by
  refine ⟨⟨_, kdOf_lst h⟩, fun b ys e hq => ?_, fun b o u e z => ?_⟩
  · cases e
    rcases hq with z | z <;> rw [h] at z <;> cases z
    exact ⟨l, k⟩
  · cases e; rw [h] at z; cases z
theorem kind_sc {H : Hp} {x : V} (hk : ∃ k, kdOf H x = some k) (n : ∀ a, x ≠ .ref a) : Kind H x := ⟨hk, fun a xs e _ => absurd e (n a), fun a o u e _ => absurd e (n a)⟩
theorem kds_ints (H : Hp) (ns : List Int) : Kds H (ns.map V.int) := fun y hy => by
  obtain ⟨i, _, rfl⟩ := List.mem_map.mp hy
  exact ⟨_, rfl⟩
end Kx
namespace Kx
open PySem L2
def rIsK (K : PySem.W.Frag) : List V → Hp → VK → Prop := fun vs H Q => ∃ x t c b, vs = [x, .ty (Kd.name c)] ∧ TyOf K H x t ∧ PySem.W.kitOne K t (.type (Kd.name c)) = some b ∧ Q (.bl b) H
theorem cr_isK {X : Cx} {K : PySem.W.Frag} (hK : X.K = K := by rfl) : CallR X (.builtin "isinstance") (rIsK K) := by
  subst hK
  intro pins s σ H vs us Q I r h
  obtain ⟨x, t, c, b, rfl, ht, hk, q⟩ := h
  obtain ⟨u, w', rfl, ru, rw'⟩ := vals2 r
  cases (show w' = Value.type c.name from rw')
  exact isinst_ok I ru ht hk fun tk => ⟨.bl _, H, I.tok _, rfl, q⟩
def rReprG (K : PySem.W.Frag) (C : Addr) (sp : Sp) : List V → Hp → VK → Prop := fun vs H Q => rReprT K vs H Q ∨ rOwn C sp okStr vs H Q
theorem cr_reprG {X : Cx} {K : PySem.W.Frag} {C : Addr} {k j : Nat} {ps : List Str} {sp : Sp} (M : Mt X.prog X.w X.K X.mg X.base C "__repr__" k ps sp) (hr : Room j X.A) (hk : k + 1 ≤ j := by decide) (hK : X.K = K := by rfl) : CallR X (.builtin "repr") (rReprG K C sp) := by
  intro pins s σ H vs us Q I r h
  rcases h with h | h
  · exact cr_reprT hr.gd hr.units hK pins s σ H vs us Q I r h
  · exact cr_reprI M hr hk pins s σ H vs us Q I r h
def KW (c : Addr) (H : Hp) (x : V) : Prop := Kind H x ∨ ∃ a dx fs, x = .ref a ∧ H a = some (.ins c dx fs)
theorem KW.same {c : Addr} {H H' : Hp} {x : V} (h : KW c H x) (s : Same H H') : KW c H' x := h.imp (fun k => k.same s) fun ⟨a, dx, fs, e, z⟩ => ⟨a, dx, fs, e, s _ _ z⟩
theorem KW.isT {K : PySem.W.Frag} {mg : Str → Option Value} {c : Addr} {H : Hp} {x : V} (W : WebC K mg c) (nt : PySem.W.kitOne K (.ref c) (.type (Kd.name .tup)) = some false) (h : KW c H x) :
    ∃ t b, TyOf K H x t ∧ PySem.W.kitOne K t (.type (Kd.name .tup)) = some b ∧ ((b = true ∧ ∃ a xs, x = .ref a ∧ H a = some (.tup xs) ∧ xs.length ≤ 40 ∧ Kds H xs) ∨ (b = false ∧ ∀ m, namV H m x = false)) := by
  rcases h with hK | ⟨a, dx, fs, rfl, ha⟩
  · obtain ⟨k, hk⟩ := hK.kd
    refine ⟨_, _, kd_ty hk, kit_kd k .tup, ?_⟩
    rcases kind_cases hk with ⟨rfl, a, xs, rfl, ha⟩ | ⟨rfl, a, xs, rfl, ha⟩ | ⟨n1, n2, g, n⟩
    · exact .inl ⟨rfl, a, xs, rfl, ha, (hK.el a xs rfl (.inr ha)).1, (hK.el a xs rfl (.inr ha)).2⟩
    · refine .inr ⟨rfl, fun m => ?_⟩
      rcases ha with ha | ⟨o, ha⟩
      · unfold namV; simp only [ha]
      · unfold namV; simp only [ha]
    · refine .inr ⟨?_, n⟩
      cases k with
      | tup => exact absurd rfl n1
      | lst => exact absurd rfl n2
      | int => rfl
      | bl => rfl
      | non => rfl
      | str => rfl
      | dct => rfl
  · exact ⟨_, _, .ins ha W.cls W.cl W.gt W.tk W.ob, nt, .inr ⟨rfl, fun m => by unfold namV; simp only [ha]⟩⟩
theorem KW.namV_same {c : Addr} {H H' : Hp} (s : Same H H') {x : V} (h : KW c H x) (m : Int) : namV H' m x = namV H m x := by
  rcases h with h | ⟨a, dx, fs, rfl, ha⟩
  · exact Kx.namV_same s h m
  · unfold namV; simp only [ha, s _ _ ha]
theorem namV_of {H : Hp} {q : Addr} {n : Nat} {f : List Int} (h : TI H q f) (iN : Nm.IsN n f) : namV H (n : Int) (.ref q) = true := by
  have h' : H q = some (.tup (f.map V.int)) := h
  unfold namV
  simp only [h']
  rw [List.length_map, iN.length, decide_eq_true rfl, Bool.true_and]
  unfold onceV
  have e : (f.map V.int).map toI = f := by rw [List.map_map]; exact List.map_id f
  have e2 : (f.map V.int).all isI = true := by rw [List.all_map]; exact List.all_eq_true.mpr fun _ _ => rfl
  rw [e, e2, List.length_map, iN.length, Bool.true_and]
  exact decide_eq_true iN
theorem ti_inj {H : Hp} {q : Addr} {f g : List Int} (h : TI H q f) (h' : TI H q g) : f = g := by
  have e : f.map V.int = g.map V.int := by
    have := h.symm.trans h'
    injection this with this
    injection this
  exact map_inj (fun a b z => by injection z) e
def Ft (n1 : Nat) (c1 : List Int) (M1 : Nat → Nat → Int) (r1 : List Int) (n2 : Nat) (c2 : List Int) (M2 : Nat → Nat → Int) (r2 f : List Int) : Prop := n1 = n2 ∧ Nm.IsN n1 f ∧ Alg n1 (fφ f) M1 M2 ∧ AlgC n1 (fφ f) c1 c2 ∧ r1.map (fφ f) = r2
def IsFt (H : Hp) (x : V) (n1 : Nat) (c1 : List Int) (M1 : Nat → Nat → Int) (r1 : List Int) (n2 : Nat) (c2 : List Int) (M2 : Nat → Nat → Int) (r2 : List Int) : Prop := ∃ q f, x = .ref q ∧ TI H q f ∧ Ft n1 c1 M1 r1 n2 c2 M2 r2 f
theorem IsFt.no {H : Hp} {x : V} {n1 n2 : Nat} {c1 c2 r1 r2 : List Int} {M1 M2 : Nat → Nat → Int} (h : namV H (n1 : Int) x = false) : ¬ IsFt H x n1 c1 M1 r1 n2 c2 M2 r2 := fun ⟨q, f, e, hq, z⟩ => by
  subst e
  rw [namV_of hq z.2.1] at h
  cases h
theorem IsFt.yes {H : Hp} {q : Addr} {f : List Int} {n1 n2 : Nat} {c1 c2 r1 r2 : List Int} {M1 M2 : Nat → Nat → Int} (hq : TI H q f) : IsFt H (.ref q) n1 c1 M1 r1 n2 c2 M2 r2 ↔ Ft n1 c1 M1 r1 n2 c2 M2 r2 f :=
  ⟨fun ⟨q', f', e, h, z⟩ => by cases e; rw [ti_inj hq h]; exact z, fun z => ⟨q, f, rfl, hq, z⟩⟩
theorem mk_uniq {n : Nat} {E E' : List R3} (ok : ∀ r ∈ E, OkR n r) (ok' : ∀ r ∈ E', OkR n r) (nd : (E.map prR).Nodup) (nd' : (E'.map prR).Nodup) (s : SrtR E) (s' : SrtR E') (h : ∀ a b : Nat, a < n → b < n → mkR E a b = mkR E' a b) : E = E' := by
  have sub : ∀ {A B : List R3}, (∀ r ∈ A, OkR n r) → (A.map prR).Nodup → (∀ a b : Nat, a < n → b < n → mkR A a b = mkR B a b) → ∀ r ∈ A, r ∈ B := fun {A B} okA ndA hAB r hr => by
    have o := okA r hr
    have a0 := o.a0
    have a1 := o.a1
    have b0 := o.b0
    have b1 := o.b1
    have m0 := o.m0
    have e := hAB r.1.toNat r.2.1.toNat (by omega) (by omega)
    rw [Int.toNat_of_nonneg a0, Int.toNat_of_nonneg b0] at e
    have l := lkR_mem ndA (a := r.1) (b := r.2.1) (m := r.2.2) hr
    unfold mkR at e
    rw [l] at e
    cases l2 : lkR B r.1 r.2.1 with
    | none => rw [l2] at e; change r.2.2 = 0 at e; omega
    | some m =>
      rw [l2] at e
      have := lkR_some l2
      change r.2.2 = m at e
      rw [← e] at this
      exact this
  have nA : ∀ {A : List R3}, (A.map prR).Nodup → A.Nodup := fun {A} hA => List.Pairwise.of_map prR (fun a b z e => z (by rw [e])) hA
  exact srt_uniq ((List.perm_ext_iff_of_nodup (nA nd) (nA nd')).mpr fun r => ⟨sub ok nd h r, sub ok' nd' (fun a b ha hb => (h a b ha hb).symm) r⟩) s s'
theorem mkR_ren {n : Nat} {f : List Int} (hf : Nm.IsN n f) {E : List R3} (ok : ∀ r ∈ E, OkR n r) (nd : (E.map prR).Nodup) {a b : Int} (ha : Rg.In n a) (hb : Rg.In n b) : mkR (renE f E) (nmI f a) (nmI f b) = mkR E a b := by
  unfold mkR
  cases h : lkR E a b with
  | some m =>
    have := lkR_mem (ren_nd hf ok nd) (a := nmI f a) (b := nmI f b) (m := m) (List.mem_map.mpr ⟨(a, b, m), lkR_some h, rfl⟩)
    rw [this]
  | none =>
    have : lkR (renE f E) (nmI f a) (nmI f b) = none := lkR_none.mpr fun r hr z => by
      obtain ⟨s, hs, rfl⟩ := List.mem_map.mp hr
      have o := ok s hs
      have e1 : nmI f s.1 = nmI f a := congrArg Prod.fst z
      have e2 : nmI f s.2.1 = nmI f b := congrArg Prod.snd z
      have f1 := nmI_inj hf o.a0 o.a1 ha.1 ha.2 e1
      have f2 := nmI_inj hf o.b0 o.b1 hb.1 hb.2 e2
      exact lkR_none.mp h s hs (by unfold prR; rw [f1, f2])
    rw [this]
theorem lead_iff {n n2 : Nat} {f c1 c2 : List Int} {E E2 E' : List R3} {M1 M2 : Nat → Nat → Int} (ok : WOk c1 E) (ok2 : WOk c2 E2) (l1 : c1.length = n) (l2 : c2.length = n2) (m1 : ∀ a b : Nat, a < n → b < n → mkR E a b = M1 a b) (m2 : ∀ a b : Nat, a < n2 → b < n2 → mkR E2 a b = M2 a b) (s2 : SrtR E2) (hf : Nm.IsN n f) (p : E'.Perm (renE f E)) (s : SrtR E') :
    (renC f c1 = c2 ∧ E' = E2) ↔ (n = n2 ∧ Alg n (fφ f) M1 M2 ∧ AlgC n (fφ f) c1 c2) := by
  have okE := ok.row
  rw [l1] at okE
  have eM : ∀ {a b : Int}, Rg.In n a → Rg.In n b → mkR E' (fφ f a) (fφ f b) = M1 a.toNat b.toNat := fun {a b} ha hb => by
    have h1 := ha.1
    have h2 := ha.2
    have h3 := hb.1
    have h4 := hb.2
    rw [mkR_perm p (ren_nd hf okE ok.nd)]
    have := mkR_ren hf okE ok.nd ha hb
    rw [show mkR (renE f E) (fφ f a) (fφ f b) = mkR (renE f E) (nmI f a) (nmI f b) from rfl, this, ← m1 _ _ (by omega) (by omega), Int.toNat_of_nonneg h1, Int.toNat_of_nonneg h3]
  constructor
  · rintro ⟨e1, e2⟩
    have en : n = n2 := by rw [← l2, ← e1, renC_length hf]
    refine ⟨en, fun a b ha hb => ?_, fun a ha => ?_⟩
    · have ia := nmI_in hf ha.1 ha.2
      have ib := nmI_in hf hb.1 hb.2
      have := eM ha hb
      rw [e2] at this
      have ia' : 0 ≤ fφ f a ∧ fφ f a < n := ia
      have ib' : 0 ≤ fφ f b ∧ fφ f b < n := ib
      rw [← this, ← m2 _ _ (by omega) (by omega), Int.toNat_of_nonneg ia'.1, Int.toNat_of_nonneg ib'.1]
    · have h1 := ha.1
      have h2 := ha.2
      have := renC_at (cols := c1) hf l1 (a := a.toNat) (by omega)
      rw [Int.toNat_of_nonneg h1, e1] at this
      rw [List.getD_eq_getElem?_getD, List.getD_eq_getElem?_getD]
      exact congrArg (fun o => o.getD 0) this
  · rintro ⟨en, A, B⟩
    subst en
    have ec : renC f c1 = c2 := by
      refine List.ext_getElem? fun i => ?_
      by_cases hi : i < n
      · obtain ⟨a, ha, e⟩ := nmI_onto hf hi
        have h1 := renC_at (cols := c1) hf l1 ha
        have h2 := B a ⟨by omega, by omega⟩
        rw [e, Int.toNat_natCast] at h1
        rw [show fφ f a = (i : Int) from e, Int.toNat_natCast, Int.toNat_natCast, List.getD_eq_getElem?_getD, List.getD_eq_getElem?_getD] at h2
        rw [h1]
        have g1 : c1[a]? = some (c1[a]'(by omega)) := List.getElem?_eq_getElem (by omega)
        have g2 : c2[i]? = some (c2[i]'(by omega)) := List.getElem?_eq_getElem (by omega)
        rw [g1, g2] at h2
        rw [g1, g2]
        exact congrArg some h2.symm
      · rw [List.getElem?_eq_none (by rw [renC_length hf]; omega), List.getElem?_eq_none (by omega)]
    refine ⟨ec, ?_⟩
    have okE2 := ok2.row
    rw [l2] at okE2
    have okR : ∀ r ∈ E', OkR n r := fun r hr => by
      have hr := p.mem_iff.mp hr
      obtain ⟨s, hs, rfl⟩ := List.mem_map.mp hr
      exact (okE s hs).ren hf
    refine mk_uniq okR okE2 ((p.map prR).nodup_iff.mpr (ren_nd hf okE ok.nd)) ok2.nd s s2 fun i j hi hj => ?_
    obtain ⟨a, ha, ea⟩ := nmI_onto hf hi
    obtain ⟨b, hb, eb⟩ := nmI_onto hf hj
    have h1 := eM (a := (a : Int)) (b := (b : Int)) ⟨by omega, by omega⟩ ⟨by omega, by omega⟩
    have h2 := A a b ⟨by omega, by omega⟩ ⟨by omega, by omega⟩
    rw [show fφ f a = (i : Int) from ea, show fφ f b = (j : Int) from eb] at h1 h2
    rw [Int.toNat_natCast, Int.toNat_natCast] at h2
    rw [h1, m2 _ _ hi hj, h2]
theorem dPr_eqv {m : Nat} {c c' : List Int} {M M' : Nat → Nat → Int} : PyData.eqv (dPr m c M) (dPr m c' M') = true ↔ (c = c' ∧ ∀ a b : Nat, a < m → b < m → M a b = M' a b) := by
  have all : ∀ a b : List (List Int), PyData.eqvAll (a.map fun r => .list (r.map PyData.int)) (b.map fun r => .list (r.map PyData.int)) = decide (a = b) := by
    intro a
    induction a with
    | nil => intro b; cases b <;> rfl
    | cons x xs ih =>
      intro b
      cases b with
      | nil => rfl
      | cons y ys =>
        simp only [List.map_cons, PyData.eqvAll, eqvLI, ih ys]
        rw [Bool.eq_iff_iff]
        simp
  have rows : ∀ N : Nat → Nat → Int, ((List.range m).map fun a => PyData.list (((List.range m).map (N a)).map PyData.int)) = ((List.range m).map fun a => (List.range m).map (N a)).map fun r => PyData.list (r.map PyData.int) := fun N => by rw [List.map_map]; rfl
  unfold dPr
  simp only [PyData.eqv, PyData.eqvAll]
  rw [rows, rows, all]
  have ec : PyData.eqvAll (c.map PyData.int) (c'.map PyData.int) = decide (c = c') := eqvAllI c c'
  rw [ec]
  simp only [Bool.and_true, Bool.and_eq_true, decide_eq_true_iff]
  refine and_congr_right fun _ => ⟨fun h a b ha hb => ?_, fun h => List.map_congr_left fun a ha => List.map_congr_left fun b hb => h a b (List.mem_range.mp ha) (List.mem_range.mp hb)⟩
  have h1 := congrArg (fun l => (l[a]?.getD [])[b]?) h
  simpa [ha, hb] using h1
theorem fit_pr {m : Nat} (m12 : m ≤ 12) {f c1 c2 c3 : List Int} {M1 M2 M3 : Nat → Nat → Int} (iN : Nm.IsN m f) (l2 : c2.length = m) (l3 : c3.length = m) (B3 : AlgC m (fφ f) c1 c3) (A3 : Alg m (fφ f) M1 M3) : (c3 = c2 ∧ ∀ a b : Nat, a < m → b < m → M3 a b = M2 a b) ↔ (Alg m (fφ f) M1 M2 ∧ AlgC m (fφ f) c1 c2) := by
  have N := nam_of m12 iN
  constructor
  · rintro ⟨rfl, h⟩
    refine ⟨fun a b ha hb => ?_, B3⟩
    have ia := N.inn _ ha
    have ib := N.inn _ hb
    have i1 := ia.1
    have i2 := ia.2
    have j1 := ib.1
    have j2 := ib.2
    rw [← h _ _ (by omega) (by omega)]
    exact A3 _ _ ha hb
  · rintro ⟨A2, B2⟩
    have e := dPr_same m12 iN l3 l2 B3 A3 B2 A2
    exact dPr_eqv.mp (by rw [e]; exact SeqAt.eqv_refl _ (can_pr _ _ _).1)
def sp_isnaming (c : Addr) : Sp := fun vs H Q _ => ∃ (m : Int) (x : V), vs = [.int m, x] ∧ KW c H x ∧ ∀ (H' : Hp), Same H H' → Q (.bl (namV H m x)) H'
def sp_renamed (c : Addr) : Sp := fun vs H Q _ => ∃ (web q : Addr) (cols : List Int) (E : List R3) (f : List Int), vs = [.ref web, .ref q] ∧ WebAt c H web cols E ∧ WOk cols E ∧ TI H q f ∧ Nm.IsN cols.length f ∧
  ∀ (a : Addr) (E' : List R3) (H' : Hp), E'.Perm (renE f E) → SrtR E' → Same H H' → WebAt c H' a (renC f cols) E' → Q (.ref a) H'
def sp_leads (c : Addr) : Sp := fun vs H Q _ => ∃ (web oth : Addr) (x : V) (cols cols2 : List Int) (E E2 : List R3), vs = [.ref web, x, .ref oth] ∧ WebAt c H web cols E ∧ WOk cols E ∧ KW c H x ∧ WebAt c H oth cols2 E2 ∧
  (namV H (cols.length : Int) x = false → ∀ (H' : Hp), Same H H' → Q (.bl false) H') ∧
  (namV H (cols.length : Int) x = true → ∀ q f, x = .ref q → TI H q f → Nm.IsN cols.length f → ∀ (E' : List R3) (H' : Hp), E'.Perm (renE f E) → SrtR E' → Same H H' → Q (.bl (decide (renC f cols = cols2) && decide (E' = E2))) H')
def sp_carriedrow : Sp := fun vs H Q _ => ∃ (r q : Addr) (n : Nat) (row f : List Int), vs = [.ref r, .ref q] ∧ TI H r row ∧ RowOk n row ∧ TI H q f ∧ Nm.IsN n f ∧ n ≤ 12 ∧ ∀ (t : Addr) (H' : Hp), Same H H' → TI H' t (row.map (fφ f)) → Q (.ref t) H'
def sp_fits (c : Addr) : Sp := fun vs H Q _ => ∃ (web r1 oth r2 : Addr) (x : V) (n1 n2 : Nat) (c1 c2 row1 row2 : List Int) (E E2 : List R3) (M1 M2 : Nat → Nat → Int), vs = [.ref web, .ref r1, .ref oth, .ref r2, x] ∧ WebAt c H web c1 E ∧ WOk c1 E ∧ c1.length = n1 ∧ (∀ a b : Nat, a < n1 → b < n1 → mkR E a b = M1 a b) ∧ WebAt c H oth c2 E2 ∧ WOk c2 E2 ∧ c2.length = n2 ∧ (∀ a b : Nat, a < n2 → b < n2 → mkR E2 a b = M2 a b) ∧ SrtR E2 ∧
  TI H r1 row1 ∧ RowOk n1 row1 ∧ TI H r2 row2 ∧ RowOk n2 row2 ∧ KW c H x ∧ ∀ (b : Bool) (H' : Hp), (b = true ↔ IsFt H x n1 c1 M1 row1 n2 c2 M2 row2) → Same H H' → Q (.bl b) H'
def sp_hisnaming (c : Addr) : Sp := fun vs H Q _ => ∃ (m : Nat) (x : V), vs = [.int (m : Int), x] ∧ m ≤ 12 ∧ KW c H x ∧ ∀ (H' : Hp), Same H H' → Q (.bl (namV H (m : Int) x)) H'
def sp_hisfit (c : Addr) : Sp := fun vs H Q _ => ∃ (p1 r1 p2 r2 : Addr) (x : V) (n1 n2 : Nat) (c1 c2 row1 row2 : List Int) (M1 M2 : Nat → Nat → Int), vs = [.ref p1, .ref r1, .ref p2, .ref r2, x] ∧ PairAt H p1 n1 c1 M1 ∧ POk n1 c1 M1 ∧ PairAt H p2 n2 c2 M2 ∧ POk n2 c2 M2 ∧ n1 ≤ 12 ∧ n2 ≤ 12 ∧
  TI H r1 row1 ∧ RowOk n1 row1 ∧ TI H r2 row2 ∧ KW c H x ∧ ∀ (b : Bool) (H' : Hp), (b = true ↔ IsFt H x n1 c1 M1 row1 n2 c2 M2 row2) → Same H H' → Q (.bl b) H'
def sp_fsays : Sp := fun vs H Q _ => ∃ a b : Bool, vs = [.bl a, .bl b] ∧ Q (.bl (a == b)) H
section
variable {P : Program} {w : World} {K : PySem.W.Frag} {mg : Str → Option Value} {base : Heap} {c : Addr}
theorem sc_isnaming : FnScope ["many", "thing"] ["many", "thing"] (defScope s_isnaming) := ⟨rfl, rfl, rfl, by decide +kernel, rfl, by decide +kernel, by decide +kernel⟩
theorem ok_isnaming {f : Addr} {fd : FuncData} (F : Fun K "is_naming" "is_naming" s_isnaming f fd) (T : Txt mg) (W : WebC K mg c) (nt : PySem.W.kitOne K (.ref c) (.type (Kd.name .tup)) = some false) (F_eachonce : Fn P w K mg base "has_each_once" 2 ["things"] sp_eachonce) : FnOk P w K mg base CX0 3 f fd ["many", "thing"] (sp_isnaming c) := by
  refine F.ok sc_isnaming (fun vs H Q E h => ?_) (fun cdv A outer s H vs Q E hr h => ?_)
  · obtain ⟨m, x, rfl, _⟩ := h
    rfl
  · have nd := sc_isnaming.nd
    obtain ⟨m, x, rfl, hK, fin⟩ := h
    refine ⟨_, (pss_one (ps_ret (pe_and (pe_callB (cr_isK (K := K)) (by rfl) T.isinstance (by decide +kernel) (pa_cons (pv 1) (pa_cons (pe_bltn (v := .ty "tuple") (by rfl) T.tuple (by decide +kernel) rfl) pa_nil))) (pe_and (pe_cmpR op_eq (pe_callB (call_lenK (K := K)) (by rfl) T.len (by decide +kernel) (pa_cons (pv 1) pa_nil)) (pv 0) (nomark _)) (pe_one (pe_fn F_eachonce hr (pa_cons (pv 1) pa_nil))))))), ?_⟩
    obtain ⟨t, b, ty, ki, hb⟩ := hK.isT W nt
    refine ⟨_, rfl, x, t, Kd.tup, b, rfl, ty, ki, _, rfl, ?_⟩
    rcases hb with ⟨rfl, a, xs, rfl, ha, l40, kds⟩ | ⟨rfl, no⟩
    · have en : namV H m (.ref a) = (decide ((xs.length : Int) = m) && onceV xs) := by unfold namV; simp only [ha]
      rw [en] at fin
      refine ⟨_, rfl, a, xs, rfl, .inr (SqT.of ha), _, rfl, rfl, _, rfl, ?_⟩
      by_cases e : (xs.length : Int) = m
      · rw [decide_eq_true e, Bool.true_and] at fin
        rw [e, decide_eq_true rfl]
        exact ⟨_, rfl, a, xs, rfl, .inr ha, l40, kds, fun H' hS => fin H' hS⟩
      · rw [decide_eq_false e, Bool.false_and] at fin
        rw [decide_eq_false (show ¬ V.int (xs.length : Int) = V.int m from fun z => e (V.int.inj z))]
        exact fin H (Same.refl H)
    · rw [no m] at fin
      exact fin H (Same.refl H)
theorem sc_renamed : FnScope ["web", "naming", "colours", "arrows", "corner", "a", "b", "mark"] ["web", "naming"] (defScope s_renamed) := ⟨rfl, rfl, rfl, by decide +kernel, rfl, by decide +kernel, by decide +kernel⟩
set_option maxHeartbeats 2000000 in
theorem ok_renamed {f : Addr} {fd : FuncData} (F : Fun K "renamed" "renamed" s_renamed f fd) (T : Txt mg) (W : WebC K mg c) (F_isnaming : Fn P w K mg base "is_naming" 3 ["many", "thing"] (sp_isnaming c)) (F_back : Fn P w K mg base "back" 1 ["naming"] sp_back) (M_len : Mt P w K mg base c "__len__" 1 ["self"] (sp_Wlen c))
    (M_Web : MkF P w K mg base "Web" c 6 ["self", "colours", "arrows"] [] (sp_Winit K c)) : FnOk P w K mg base CX0 8 f fd ["web", "naming"] (sp_renamed c) := by
  refine F.ok sc_renamed (fun vs H Q E h => ?_) (fun cdv A outer s H vs Q E0' hr h => ?_)
  · obtain ⟨web, q, cols, E, f, rfl, _⟩ := h
    rfl
  · have nd := sc_renamed.nd
    obtain ⟨web, q, cols, E, f, rfl, wb, ok, hq, hf, yes⟩ := h
    refine ⟨_, (pss_cons (ps_if (pt_not (pt_val (pe_fn F_isnaming hr (pa_cons (pe_callB (cr_lenI M_len hr) (by rfl) T.len (by decide +kernel) (pa_cons (pv 0) pa_nil)) (pa_cons (pv 1) pa_nil)))))
      (pss_one ps_never)
      pss_nil)
      (pss_cons (ps_setLc (i := 2) (own := [("corner", 4)]) (g := gName 4) (by rfl) nd rfl rfl (sw_true rfl rfl rfl (by decide +kernel)) (pi_tupK (K := K) (pe_fn F_back hr (pa_cons (pv 1) pa_nil))) (blkOk_by (own := [("corner", 4)]) (N := ["web", "naming", "colours", "arrows", "corner", "a", "b", "mark"]) (sc := defScope s_renamed) (by decide +kernel)) (fun _ _ _ _ _ => (pg_name (i := 4) nd rfl (Or.inl rfl))) (fun _ _ _ _ _ => pts_nil) (fun _ _ _ _ _ => (pe_ix (ix_tupK (K := K)) (pe_fldK (K := K) (pv 0)) (pv 4) (fun _ _ => rfl))))
      (pss_cons (ps_setLc (i := 3) (own := [("a", 5), ("b", 6), ("mark", 7)]) (g := gTup K 3 (gCons (gName 5) (gCons (gName 6) (gCons (gName 7) gNil)))) (by rfl) nd rfl rfl (sw_true rfl rfl rfl (by decide +kernel)) (pi_tupK (K := K) (pe_fldK (K := K) (pv 0))) (blkOk_by (own := [("a", 5), ("b", 6), ("mark", 7)]) (N := ["web", "naming", "colours", "arrows", "corner", "a", "b", "mark"]) (sc := defScope s_renamed) (by decide +kernel)) (fun _ _ _ _ _ => (pg_tupK (K := K) rfl (pgs_cons (pg_name (i := 5) nd rfl (Or.inl rfl)) (pgs_cons (pg_name (i := 6) nd rfl (Or.inl rfl)) (pgs_cons (pg_name (i := 7) nd rfl (Or.inl rfl)) pgs_nil))))) (fun _ _ _ _ _ => pts_nil) (fun _ _ _ _ _ => (pe_tup (pa_cons (pe_ix (ix_tupK (K := K)) (pv 1) (pv 5) (fun _ _ => rfl)) (pa_cons (pe_ix (ix_tupK (K := K)) (pv 1) (pv 6) (fun _ _ => rfl)) (pa_cons (pv 7) pa_nil))))))
      (pss_one (ps_ret (pe_mk M_Web hr (pa_cons (pv 2) (pa_cons (pv 3) pa_nil)))))))), ?_⟩
    have three : (3 : Nat) ≤ sizeLine := by decide
    have l12 := ok.len
    have few := ok.few
    have hfl := hf.length
    obtain ⟨dx, p1, p2, p3, ts, hw, hp1, hp2, rows, hties⟩ := id wb
    have kq : KW c H (.ref q) := .inl (kind_tup hq (by rw [List.length_map]; omega) (kds_ints _ _))
    refine ⟨_, rfl, web, dx, _, rfl, hw, web, cols, E, rfl, wb, ⟨_, rfl, by omega, by omega⟩, _, rfl, cols.length, .ref q, rfl, kq, fun H1 s1 => ?_⟩
    rw [namV_of hq hf]
    refine ⟨_, rfl, iteF ?_⟩
    refine ⟨_, rfl, q, f, cols.length, rfl, s1 _ _ hq, by omega, hf, fun pb H2 s2 hpb => ?_⟩
    have s12 := s1.trans s2
    have hbk := hf.back
    refine ⟨pb, rfl, ⟨_, SqT.of hpb⟩, fun D hD => lc_tup (K := K) (a := pb) (xs := (Nm.backF f).map V.int) (fun i H' => Same H2 H' ∧ H' D = some (.lst (((renC f cols).take i).map V.int))) ⟨Same.new hD, upd_same⟩ (fun i H' _ h => SqT.of (h.1 _ _ hpb)) ?_ ?_⟩
    · rintro i x H' hx ⟨sH, hDl⟩
      rw [List.getElem?_map] at hx
      obtain ⟨k, hk, rfl⟩ := Option.map_eq_some_iff.mp hx
      have hkm := hbk.mem.mp (List.mem_of_getElem? hk)
      have hk2 : k.toNat < cols.length := by omega
      have hck : (cols.map V.int)[k.toNat]? = some (.int (cols.getD k.toNat 0)) := by
        rw [List.getElem?_map, List.getElem?_eq_getElem hk2, List.getD_eq_getElem?_getD, List.getElem?_eq_getElem hk2]; rfl
      have hrc : (renC f cols)[i]? = some (cols.getD k.toNat 0) := by
        unfold renC Nm.thenF
        rw [List.getElem?_map, hk]; rfl
      have hlen : (renC f cols).length = cols.length := renC_length hf
      refine ⟨rfl, _, rfl, web, c, dx, _, _, rfl, (s12.trans sH) _ _ hw, W.cls, W.nC, rfl, _, rfl, p1, _, _, _, rfl, rfl, SqT.of ((s12.trans sH) _ _ hp1), at_of (j := k.toNat) (by omega) hck, _, hDl, by rw [List.length_map, List.length_take]; exact small1000 (by omega), fun b o e => ?_, ?_⟩
      · rw [upd_ne (ne_of_none e hD)]; exact sH _ _ e
      · rw [upd_same, List.take_succ, hrc, List.map_append]; rfl
    rintro H3 ⟨s3, hD3⟩
    have e3 : (renC f cols).take ((Nm.backF f).map V.int).length = renC f cols := List.take_of_length_le (by rw [List.length_map, Nm.back_length, renC_length hf, hfl]; exact Nat.le_refl _)
    rw [e3] at hD3
    have s13 := s12.trans s3
    refine ⟨_, rfl, web, c, dx, _, _, rfl, s13 _ _ hw, W.cls, W.nA, rfl, p2, rfl, ⟨_, SqT.of (s13 _ _ hp2)⟩, fun D2 hD2 => lc_tup (K := K) (a := p2) (xs := ts.map V.ref) (fun i H' => Same H3 H' ∧ ∃ us : List Addr, H' D2 = some (.lst (us.map V.ref)) ∧ Paired (RowT H') us (renE f (E.take i))) ⟨Same.new hD2, [], upd_same, .nil⟩ (fun i H' _ h => SqT.of (h.1 _ _ (s13 _ _ hp2))) ?_ ?_⟩
    · rintro i x H' hx ⟨sH, us, hDl, prd⟩
      rw [List.getElem?_map] at hx
      obtain ⟨t, ht, rfl⟩ := Option.map_eq_some_iff.mp hx
      obtain ⟨r, hr1, hr2⟩ := paired_get rows ht
      have ro := ok.row r (List.mem_of_getElem? hr1)
      have hi := (List.getElem?_eq_some_iff.mp hr1).1
      have sHH := s13.trans sH
      have hrow : H' t = some (.tup [.int r.1, .int r.2.1, .int r.2.2]) := sHH _ _ hr2
      have fa : ∀ x : Int, 0 ≤ x → x < cols.length → (f.map V.int)[x.toNat]? = some (.int (nmI f x)) := fun x x0 x1 => by
        have hx : x.toNat < f.length := by omega
        rw [List.getElem?_map, List.getElem?_eq_getElem hx]
        unfold nmI
        rw [List.getD_eq_getElem?_getD, List.getElem?_eq_getElem hx]; rfl
      have a0 := ro.a0
      have b0 := ro.b0
      have lus : us.length = i := by rw [Paired.length prd, renE, List.length_map, List.length_take]; omega
      refine ⟨t, _, rfl, SqT.of hrow, rfl, _, _, rfl, _, _, rfl, _, _, rfl, rfl, rfl, _, rfl, _, rfl, q, _, _, _, rfl, rfl, SqT.of (sHH _ _ hq), at_of (j := r.1.toNat) (by omega) (fa r.1 ro.a0 ro.a1), _, rfl, _, rfl, q, _, _, _, rfl, rfl, SqT.of (sHH _ _ hq), at_of (j := r.2.1.toNat) (by omega) (fa r.2.1 ro.b0 ro.b1), _, rfl, three, fun l hl => ?_⟩
      have sl := Same.new (o := .tup [.int (nmI f r.1), .int (nmI f r.2.1), .int r.2.2]) hl
      refine ⟨_, sl _ _ hDl, by rw [List.length_map, lus]; exact small1000 (by omega), fun b o e => ?_, us ++ [l], ?_, ?_⟩
      · rw [upd_ne (ne_of_none e hD2)]; exact sl _ _ (sH _ _ e)
      · rw [upd_same, List.map_append]; rfl
      · have e1 : renE f (E.take (i + 1)) = renE f (E.take i) ++ [renR f r] := by
          unfold renE
          rw [List.take_succ, hr1, List.map_append]; rfl
        rw [e1]
        have hDl2 := sl _ _ hDl
        have hl2 : upd H' l (.tup [.int (nmI f r.1), .int (nmI f r.2.1), .int r.2.2]) l = some (.tup [.int (nmI f r.1), .int (nmI f r.2.1), .int r.2.2]) := upd_same
        generalize upd H' l (.tup [.int (nmI f r.1), .int (nmI f r.2.1), .int r.2.2]) = H4 at sl hDl2 hl2
        have up : ∀ t r, RowT H4 t r → RowT (upd H4 D2 (.lst (us.map V.ref ++ [.ref l]))) t r := fun t r z => by
          show upd H4 D2 _ t = _
          rw [upd_ne (ne_of z hDl2 (by intro q; cases q))]; exact z
        exact Paired.snoc (Paired.mapP prd fun t r z => up t r (sl _ _ z)) (up l (renR f r) hl2)
    rintro H4 ⟨s4, us, hD4, prd⟩
    rw [List.length_map, show ts.length = E.length from Paired.length rows, List.take_length] at prd
    have s14 := s13.trans s4
    refine ⟨_, rfl, _, rfl, fun x dx' hx hdx hne => ?_⟩
    have sN := sameNew2 (c := c) hx hdx
    exact ⟨x, dx', D, D2, renC f cols, us, renE f E, rfl, upd_same, .inl (sN _ _ (s4 _ _ hD3)), ⟨.inl (SqL.of (sN _ _ hD4)), Paired.mapP prd fun t r z => .inr (sN _ _ z)⟩, ok.ren hf, fun E' H' pE' sE' k wb' => ⟨rfl, yes x E' H' pE' sE' (s14.trans (sameMade hx hdx k)) wb'⟩⟩
theorem sc_leads : FnScope ["web", "naming", "other"] ["web", "naming", "other"] (defScope s_leads) := ⟨rfl, rfl, rfl, by decide +kernel, rfl, by decide +kernel, by decide +kernel⟩
theorem ok_leads {f : Addr} {fd : FuncData} (F : Fun K "leads" "leads" s_leads f fd) (T : Txt mg) (W : WebC K mg c) (F_isnaming : Fn P w K mg base "is_naming" 3 ["many", "thing"] (sp_isnaming c)) (F_renamed : Fn P w K mg base "renamed" 8 ["web", "naming"] (sp_renamed c)) (M_len : Mt P w K mg base c "__len__" 1 ["self"] (sp_Wlen c))
    (M_eq : Mt P w K mg base c "__eq__" 1 ["self", "other"] (sp_Weq c)) : FnOk P w K mg base CX0 9 f fd ["web", "naming", "other"] (sp_leads c) := by
  refine F.ok sc_leads (fun vs H Q E h => ?_) (fun cdv A outer s H vs Q E0' hr h => ?_)
  · obtain ⟨web, oth, x, cols, cols2, E, E2, rfl, _⟩ := h
    rfl
  · have nd := sc_leads.nd
    obtain ⟨web, oth, x, cols, cols2, E, E2, rfl, wb, ok, hK, wb2, no, yes⟩ := h
    refine ⟨_, (pss_one (ps_ret (pe_and (pe_fn F_isnaming hr (pa_cons (pe_callB (cr_lenI M_len hr) (by rfl) T.len (by decide +kernel) (pa_cons (pv 0) pa_nil)) (pa_cons (pv 1) pa_nil))) (pe_one (pe_cmpR (op_eqI M_eq hr) (pe_fn F_renamed hr (pa_cons (pv 0) (pa_cons (pv 1) pa_nil))) (pv 2) (nomark _)))))), ?_⟩
    have l12 := ok.len
    obtain ⟨dx, p1, p2, p3, ts, hw, _⟩ := id wb
    obtain ⟨dx2, p12, p22, p32, ts2, ho, _⟩ := id wb2
    refine ⟨_, rfl, web, dx, _, rfl, hw, web, cols, E, rfl, wb, ⟨_, rfl, by omega, by omega⟩, _, rfl, cols.length, x, rfl, hK, fun H1 s1 => ?_⟩
    cases en : namV H (cols.length : Int) x with
    | false => exact ⟨_, rfl, no en H1 s1⟩
    | true =>
      obtain ⟨q, f, rfl, hq, hf⟩ := nam_ints en
      refine ⟨_, rfl, _, rfl, _, rfl, web, q, cols, E, f, rfl, wb.same s1, ok, s1 _ _ hq, hf, fun a E' H2 pE sE s2 wb3 => ?_⟩
      obtain ⟨dx3, p13, p23, p33, ts3, ha, _⟩ := id wb3
      have s02 := s1.trans s2
      exact ⟨_, rfl, a, dx3, _, rfl, ha, .inr ⟨oth, dx2, _, rfl, s02 _ _ ho⟩, a, .ref oth, renC f cols, E', rfl, wb3, .inr ⟨oth, cols2, E2, rfl, wb2.same s02, _, rfl, yes en q f rfl hq hf E' H2 pE sE s02⟩⟩
theorem sc_carriedrow : FnScope ["row", "naming", "corner"] ["row", "naming"] (defScope s_carriedrow) := ⟨rfl, rfl, rfl, by decide +kernel, rfl, by decide +kernel, by decide +kernel⟩
theorem ok_carriedrow {f : Addr} {fd : FuncData} (F : Fun K "carried_row" "carried_row" s_carriedrow f fd) (T : Txt mg) : FnOk P w K mg base CX0 1 f fd ["row", "naming"] sp_carriedrow := by
  refine F.ok sc_carriedrow (fun vs H Q E h => ?_) (fun cdv A outer s H vs Q E0' hr h => ?_)
  · obtain ⟨r, q, n, row, f, rfl, _⟩ := h
    rfl
  · have nd := sc_carriedrow.nd
    obtain ⟨r, q, n, row, f, rfl, h1, ok1, hq, iN, n12, fin⟩ := h
    refine ⟨_, (pss_one (ps_ret (pe_callTy (call_tupleK (K := K)) (by rfl) T.tuple (by decide +kernel) (pa_cons (pe_lc (own := [("corner", 2)]) (g := gName 2) (by rfl) nd (pi_tupK (K := K) (pv 0)) (blkOk_by (own := [("corner", 2)]) (N := ["row", "naming", "corner"]) (sc := defScope s_carriedrow) (by decide +kernel)) (fun _ _ _ _ _ => (pg_name (i := 2) nd rfl (Or.inl rfl))) (fun _ _ _ _ _ => pts_nil) (fun _ _ _ _ _ => (pe_ix (ix_tupK (K := K)) (pv 1) (pv 2) (fun _ _ => rfl)))) pa_nil)))), ?_⟩
    have rl := row_len ok1
    have lf := iN.length
    refine ⟨_, rfl, r, rfl, ⟨_, SqT.of h1⟩, fun D hD => lc_tup (K := K) (a := r) (xs := row.map V.int) (fun j H' => Same H H' ∧ H' D = some (.lst (((row.take j).map (fφ f)).map V.int))) ⟨Same.new hD, upd_same⟩ (fun j H' _ h => SqT.of (h.1 _ _ h1)) ?_ ?_⟩
    · rintro j y H7 hy ⟨s7, hD7⟩
      rw [List.getElem?_map] at hy
      obtain ⟨b, hb, rfl⟩ := Option.map_eq_some_iff.mp hy
      have hj := (List.getElem?_eq_some_iff.mp hb).1
      have hbi := ok1.inn b (List.mem_of_getElem? hb)
      have hb0 := hbi.1
      refine ⟨rfl, _, rfl, _, rfl, q, _, _, _, rfl, rfl, SqT.of (s7 _ _ hq), at_of (j := b.toNat) (by omega) (by rw [List.getElem?_map, fφ_get iN hbi]; rfl), _, hD7, ?_, same_set2 s7 hD, ?_⟩
      · rw [List.length_map, List.length_map, List.length_take]; exact small1000 (by omega)
      · rw [upd_same, List.take_succ, hb]; simp
    · rintro H7 ⟨s7, hD7⟩
      rw [List.length_map, List.take_length] at hD7
      exact ⟨D, _, rfl, .inl ⟨SqL.of hD7, fun u hu => fin u _ (s7.step hu) upd_same⟩⟩
theorem sc_fits : FnScope ["web", "row", "other", "other_row", "thing"] ["web", "row", "other", "other_row", "thing"] (defScope s_fits) := ⟨rfl, rfl, rfl, by decide +kernel, rfl, by decide +kernel, by decide +kernel⟩
set_option maxHeartbeats 2000000 in
theorem ok_fits {f : Addr} {fd : FuncData} (F : Fun K "fits" "fits" s_fits f fd) (T : Txt mg) (F_ckrow : Fn P w K mg base "check_row" 5 ["web", "thing"] (sp_ckrow c)) (F_leads : Fn P w K mg base "leads" 9 ["web", "naming", "other"] (sp_leads c)) (F_carriedrow : Fn P w K mg base "carried_row" 1 ["row", "naming"] sp_carriedrow) : FnOk P w K mg base CX0 10 f fd ["web", "row", "other", "other_row", "thing"] (sp_fits c) := by
  refine F.ok sc_fits (fun vs H Q E h => ?_) (fun cdv A outer s H vs Q E0' hr h => ?_)
  · obtain ⟨web, r1, oth, r2, x, n1, n2, c1, c2, row1, row2, E, E2, M1, M2, rfl, _⟩ := h
    rfl
  · have nd := sc_fits.nd
    obtain ⟨web, r1, oth, r2, x, n1, n2, c1, c2, row1, row2, E, E2, M1, M2, rfl, wb, ok, l1, m1, wb2, ok2, l2, m2, sE2, h1, ro1, h2, ro2, hK, fin⟩ := h
    refine ⟨_, (pss_cons (ps_expr (pe_fn F_ckrow hr (pa_cons (pv 0) (pa_cons (pv 1) pa_nil))))
      (pss_cons (ps_expr (pe_fn F_ckrow hr (pa_cons (pv 2) (pa_cons (pv 3) pa_nil))))
      (pss_one (ps_ret (pe_and (pe_fn F_leads hr (pa_cons (pv 0) (pa_cons (pv 4) (pa_cons (pv 2) pa_nil)))) (pe_one (pe_cmpR (op_eqDK (K := K) hr.units) (pe_fn F_carriedrow hr (pa_cons (pv 1) (pa_cons (pv 4) pa_nil))) (pv 3) (nomark _)))))))), ?_⟩
    have l12 := ok.len
    have l12' := ok2.len
    refine ⟨_, rfl, _, rfl, web, r1, n1, c1, row1, E, rfl, wb, l1, by omega, h1, ro1, fun H1 s1 => ?_⟩
    refine ⟨_, rfl, _, rfl, oth, r2, n2, c2, row2, E2, rfl, wb2.same s1, l2, by omega, s1 _ _ h2, ro2, fun H2 s2 => ?_⟩
    have s12 := s1.trans s2
    have en1 : ∀ {H3 : Hp}, Same H H3 → namV H3 (c1.length : Int) x = namV H (n1 : Int) x := fun s => by rw [hK.namV_same s, l1]
    refine ⟨_, rfl, _, rfl, _, rfl, web, oth, x, c1, c2, E, E2, rfl, wb.same s12, ok, hK.same s12, wb2.same s12, fun no H3 s3 => ?_, fun en q f e hq hf E' H3 pE sE s3 => ?_⟩
    · rw [en1 s12] at no
      exact ⟨_, rfl, fin false H3 (iff_of_false (by decide) (IsFt.no no)) (s12.trans s3)⟩
    · subst e
      rw [en1 s12] at en
      obtain ⟨q', f', e, hq', hf'⟩ := nam_ints en
      cases e
      have ef := ti_inj hq (s12 _ _ hq')
      subst ef
      have li := lead_iff (n := n1) (n2 := n2) ok ok2 l1 l2 m1 m2 sE2 hf' pE sE
      have ld : (decide (renC f c1 = c2) && decide (E' = E2)) = true ↔ (n1 = n2 ∧ Alg n1 (fφ f) M1 M2 ∧ AlgC n1 (fφ f) c1 c2) := by
        rw [Bool.and_eq_true, decide_eq_true_iff, decide_eq_true_iff]; exact li
      have s13 := s12.trans s3
      refine ⟨_, rfl, ?_⟩
      cases hd : (decide (renC f c1 = c2) && decide (E' = E2)) with
      | false =>
        refine fin false H3 (iff_of_false (by decide) fun z => ?_) s13
        obtain ⟨a1, _, a3, a4, _⟩ := (IsFt.yes hq').mp z
        rw [ld.mpr ⟨a1, a3, a4⟩] at hd
        cases hd
      | true =>
        obtain ⟨b1, b2, b3⟩ := ld.mp hd
        refine ⟨_, rfl, _, rfl, r1, q, n1, row1, f, rfl, s13 _ _ h1, ro1, s13 _ _ hq', hf', by omega, fun t H4 s4 ht => ?_⟩
        refine ⟨_, rfl, dCols (row1.map (fφ f)), dCols row2, dpCols ht, dpCols ((s13.trans s4) _ _ h2), shapedT _, shapedT _, ?_⟩
        rw [eqvCols]
        refine fin _ H4 ?_ (s13.trans s4)
        rw [decide_eq_true_iff, IsFt.yes hq']
        exact ⟨fun z => ⟨b1, hf', b2, b3, z⟩, fun z => z.2.2.2.2⟩
theorem sc_fisnaming : FnScope ["_law_many", "_law_thing", "_law_part"] ["_law_many", "_law_thing"] (defScope s_fisnaming) := ⟨rfl, rfl, rfl, by decide +kernel, rfl, by decide +kernel, by decide +kernel⟩
set_option maxHeartbeats 2000000 in
theorem ok_fisnaming {f : Addr} {fd : FuncData} (F : Fun K "_law_is_naming" "_law_is_naming" s_fisnaming f fd) (T : Txt mg) (W : WebC K mg c) (nt : PySem.W.kitOne K (.ref c) (.type (Kd.name .tup)) = some false) : FnOk P w K mg base CX0 1 f fd ["_law_many", "_law_thing"] (sp_hisnaming c) := by
  refine F.ok sc_fisnaming (fun vs H Q E h => ?_) (fun cdv A outer st H vs Q E hr h => ?_)
  · obtain ⟨m, x, rfl, _⟩ := h
    rfl
  · have nd := sc_fisnaming.nd
    obtain ⟨m, x, rfl, m12, hK, fin⟩ := h
    refine ⟨_, (pss_cons (ps_if (PW.pt (pw_or (pt_not (pt_val (pe_callB (cr_isK (K := K)) (by rfl) T.isinstance (by decide +kernel) (pa_cons (pv 1) (pa_cons (pe_bltn (v := .ty "tuple") (by rfl) T.tuple (by decide +kernel) rfl) pa_nil))))) (pw_or1 (pt_cmpR op_ne (pe_callB (call_lenK (K := K)) (by rfl) T.len (by decide +kernel) (pa_cons (pv 1) pa_nil)) (pv 0) (nomark _)))))
      (pss_one (ps_ret pe_bl))
      pss_nil)
      (pss_cons (ps_for PassesOwn.never rfl (pi_tupK (K := K) (pv 1)) (pg_name (i := 2) nd rfl (Or.inl rfl))
      (pss_one (ps_if (PW.pt (pw_or (pt_not (pt_val (pe_callB cr_isi (by rfl) T.isinstance (by decide +kernel) (pa_cons (pv 2) (pa_cons (pe_bltn (v := .ty "int") (by rfl) T.int (by decide +kernel) rfl) pa_nil))))) (pw_or1 (pt_val (pe_callB cr_isi (by rfl) T.isinstance (by decide +kernel) (pa_cons (pv 2) (pa_cons (pe_bltn (v := .ty "bool") (by rfl) T.bool (by decide +kernel) rfl) pa_nil)))))))
      (pss_one (ps_ret pe_bl))
      pss_nil)))
      (pss_one (ps_ret (pe_cmpR (op_eqDK (K := K) hr.units) (pe_callB (cr_sortedQ (K := K)) (by rfl) T.sorted (by decide +kernel) (pa_cons (pv 1) pa_nil)) (pe_callTy (cr_list_rng hr.hd) (by rfl) T.list (by decide +kernel) (pa_cons (pe_callTy cr_range1 (by rfl) T.range (by decide +kernel) (pa_cons (pv 0) pa_nil)) pa_nil)) (nomark _)))))), ?_⟩
    obtain ⟨t, b, ty, ki, hb⟩ := hK.isT W nt
    refine ⟨_, rfl, x, t, Kd.tup, b, rfl, ty, ki, b, rfl, ?_⟩
    rcases hb with ⟨rfl, a, xs, rfl, ha, l40, kds⟩ | ⟨rfl, no⟩
    case inr =>
      have := fin H (Same.refl H)
      rw [no (m : Int)] at this
      exact iteT this
    case inl =>
      have en : namV H (m : Int) (.ref a) = (decide ((xs.length : Int) = m) && onceV xs) := by unfold namV; simp only [ha]
      rw [en] at fin
      refine iteF ⟨_, rfl, a, _, rfl, .inr (SqT.of ha), _, rfl, rfl, _, rfl, ?_⟩
      by_cases e : (xs.length : Int) = m
      case neg =>
        rw [decide_eq_false e, Bool.false_and] at fin
        rw [decide_eq_false (show ¬ V.int (xs.length : Int) = V.int (m : Int) from fun z => e (V.int.inj z))]
        exact iteT (fin H (Same.refl H))
      case pos =>
        rw [decide_eq_true e, Bool.true_and] at fin
        rw [decide_eq_true (show V.int (xs.length : Int) = V.int (m : Int) by rw [e])]
        refine iteF ⟨_, rfl, a, rfl, ⟨_, SqT.of ha⟩, for_tup (K := K) (a := a) (xs := xs) (fun i σ H' => (∃ v2, σ = [some (.int (m : Int)), some (.ref a), v2]) ∧ Same H H' ∧ ∀ y ∈ xs.take i, isI y = true) ⟨⟨_, rfl⟩, Same.refl _, fun y hy => by simp at hy⟩ (fun i σ H' _ h => SqT.of (h.2.1 _ _ ha)) ?_ ?_⟩
        · rintro i x σ H1 hx ⟨⟨v2, rfl⟩, s1, all⟩
          obtain ⟨k, hk⟩ := kds x (List.mem_of_getElem? hx)
          have hk1 := kdOf_same s1 hk
          have tk : xs.take (i + 1) = xs.take i ++ [x] := by rw [List.take_succ, hx]; rfl
          have onceF : isI x = false → onceV xs = false := fun z => by
            unfold onceV
            have : xs.all isI = false := List.all_eq_false.mpr ⟨x, List.mem_of_getElem? hx, by rw [z]; decide⟩
            rw [this, Bool.false_and]
          have eI := kd_isI hk
          refine ⟨_, rfl, x, k, Kd.int, rfl, hk1, _, rfl, ?_⟩
          cases k with
          | int =>
            refine iteF ⟨_, rfl, x, _, Kd.bl, rfl, hk1, _, rfl, ?_⟩
            refine iteF ⟨⟨_, rfl⟩, s1, fun y hy => ?_⟩
            rw [tk] at hy
            rcases List.mem_append.mp hy with z | z
            · exact all y z
            · rw [List.mem_singleton.mp z, ← eI]; rfl
          | bl =>
            refine iteF ⟨_, rfl, x, _, Kd.bl, rfl, hk1, _, rfl, ?_⟩
            have := fin H1 s1
            rw [onceF (by rw [← eI]; rfl)] at this
            exact iteT this
          | non => have := fin H1 s1; rw [onceF (by rw [← eI]; rfl)] at this; exact iteT this
          | str => have := fin H1 s1; rw [onceF (by rw [← eI]; rfl)] at this; exact iteT this
          | lst => have := fin H1 s1; rw [onceF (by rw [← eI]; rfl)] at this; exact iteT this
          | tup => have := fin H1 s1; rw [onceF (by rw [← eI]; rfl)] at this; exact iteT this
          | dct => have := fin H1 s1; rw [onceF (by rw [← eI]; rfl)] at this; exact iteT this
        · rintro σ H1 ⟨⟨v2, rfl⟩, s1, all⟩
          rw [List.take_length] at all
          have hall : xs.all isI = true := List.all_eq_true.mpr all
          have ei := ints_of hall
          have hq2 : SqL K H1 a ((xs.map toI).map V.int) ∨ SqT K H1 a ((xs.map toI).map V.int) := by
            rw [ei]; exact .inr (SqT.of (s1 _ _ ha))
          refine ⟨_, rfl, a, xs.map toI, rfl, hq2, by rw [List.length_map]; omega, fun ns' p pm up hp => ?_⟩
          have s2 : Same H1 (upd H1 p (.lst (ns'.map V.int))) := Same.new hp
          refine ⟨_, rfl, m, rfl, fun p2 hp2 => ⟨p2, m, rfl, upd_same, by omega, by omega, fun p3 hp3 => ?_⟩⟩
          have s3 := (s2.step (o := .rng 0 (m : Int)) hp2).step (o := .lst ((Nm.upTo ((m : Nat) : Int).toNat).map V.int)) hp3
          have e3 : ((m : Nat) : Int).toNat = xs.length := by omega
          refine ⟨.list (ns'.map PyData.int), .list ((Nm.upTo xs.length).map PyData.int), dpL ((Same.new hp3) _ _ ((Same.new hp2) _ _ upd_same)), ?_, shapedL _, shapedL _, ?_⟩
          · have z : upd (upd (upd H1 p (.lst (ns'.map V.int))) p2 (.rng 0 (m : Int))) p3 (.lst ((Nm.upTo ((m : Nat) : Int).toNat).map V.int)) p3 = some (.lst ((Nm.upTo xs.length).map V.int)) := by rw [upd_same, e3]
            exact dpL z
          · rw [eqvLI, once_sorted pm up]
            have fin := fin _ (s1.trans s3)
            unfold onceV at fin
            rw [hall, Bool.true_and] at fin
            exact fin
theorem sc_fisfit : FnScope ["_law_one", "_law_row", "_law_other", "_law_other_row", "_law_thing", "_law_many", "_law_a"] ["_law_one", "_law_row", "_law_other", "_law_other_row", "_law_thing"] (defScope s_fisfit) := ⟨rfl, rfl, rfl, by decide +kernel, rfl, by decide +kernel, by decide +kernel⟩
set_option maxHeartbeats 2000000 in
theorem ok_fisfit {f : Addr} {fd : FuncData} (F : Fun K "_law_is_fit" "_law_is_fit" s_fisfit f fd) (T : Txt mg) (F_frenamed : Fn P w K mg base "_law_renamed" 1 ["_law_one", "_law_naming"] sp_frenamed) (F_fisnaming : Fn P w K mg base "_law_is_naming" 1 ["_law_many", "_law_thing"] (sp_hisnaming c)) : FnOk P w K mg base CX0 2 f fd ["_law_one", "_law_row", "_law_other", "_law_other_row", "_law_thing"] (sp_hisfit c) := by
  refine F.ok sc_fisfit (fun vs H Q E h => ?_) (fun cdv A outer st H vs Q E hr h => ?_)
  · obtain ⟨p1, r1, p2, r2, x, n1, n2, c1, c2, row1, row2, M1, M2, rfl, _⟩ := h
    rfl
  · have nd := sc_fisfit.nd
    obtain ⟨p1, r1, p2, r2, x, n1, n2, c1, c2, row1, row2, M1, M2, rfl, pa1, o1, pa2, o2, m12, m12', h1, ok1, h2, hK, fin⟩ := h
    refine ⟨_, (pss_cons (ps_set (i := 5) nd rfl (Or.inl rfl) (pe_callB (call_lenK (K := K)) (by rfl) T.len (by decide +kernel) (pa_cons (pe_ix (ix_listK (K := K)) (pv 0) pe_int (fun _ _ => rfl)) pa_nil)))
      (pss_cons (ps_if (PW.pt (pw_or (pt_cmpR op_ne (pe_callB (call_lenK (K := K)) (by rfl) T.len (by decide +kernel) (pa_cons (pe_ix (ix_listK (K := K)) (pv 2) pe_int (fun _ _ => rfl)) pa_nil)) (pv 5) (nomark _)) (pw_or (pt_cmpR op_ne (pe_callB (call_lenK (K := K)) (by rfl) T.len (by decide +kernel) (pa_cons (pv 1) pa_nil)) (pe_callB (call_lenK (K := K)) (by rfl) T.len (by decide +kernel) (pa_cons (pv 3) pa_nil)) (nomark _)) (pw_or1 (pt_not (pt_val (pe_fn F_fisnaming hr (pa_cons (pv 5) (pa_cons (pv 4) pa_nil)))))))))
      (pss_one (ps_ret pe_bl))
      pss_nil)
      (pss_one (ps_ret (pe_and (pe_cmpR (op_eqDK (K := K) hr.units) (pe_fn F_frenamed hr (pa_cons (pv 0) (pa_cons (pv 4) pa_nil))) (pv 2) (nomark _)) (pe_one (pe_cmpR (op_eqDK (K := K) hr.units) (pe_callTy (call_tupleK (K := K)) (by rfl) T.tuple (by decide +kernel) (pa_cons (pe_lc (own := [("_law_a", 6)]) (g := gName 6) (by rfl) nd (pi_tupK (K := K) (pv 1)) (blkOk_by (own := [("_law_a", 6)]) (N := ["_law_one", "_law_row", "_law_other", "_law_other_row", "_law_thing", "_law_many", "_law_a"]) (sc := defScope s_fisfit) (by decide +kernel)) (fun _ _ _ _ _ => (pg_name (i := 6) nd rfl (Or.inl rfl))) (fun _ _ _ _ _ => pts_nil) (fun _ _ _ _ _ => (pe_ix (ix_tupK (K := K)) (pv 4) (pv 6) (fun _ _ => rfl)))) pa_nil)) (pv 3) (nomark _)))))))), ?_⟩
    obtain ⟨t1, k1, rs1, hp1, hc1, _⟩ := id pa1
    obtain ⟨t2, k2, rs2, hp2, hc2, _⟩ := id pa2
    have rl := row_len ok1
    refine ⟨_, rfl, p1, _, _, _, rfl, rfl, SqL.of hp1, at_of (j := 0) rfl rfl, t1, _, rfl, .inr (SqT.of hc1), ?_⟩
    rw [show (((c1.map V.int).length : Nat) : Int) = (n1 : Int) by rw [List.length_map, o1.cl]]
    refine ⟨_, rfl, p2, _, _, _, rfl, rfl, SqL.of hp2, at_of (j := 0) rfl rfl, t2, _, rfl, .inr (SqT.of hc2), _, rfl, rfl, _, rfl, ?_⟩
    by_cases e1 : n1 = n2
    case neg =>
      rw [decide_eq_false (show ¬ V.int (((c2.map V.int).length : Nat) : Int) = V.int (n1 : Int) from fun z => by have := V.int.inj z; rw [List.length_map, o2.cl] at this; omega)]
      exact iteT (fin false H (iff_of_false (by decide) fun ⟨_, _, _, _, z⟩ => e1 z.1) (Same.refl _))
    case pos =>
    subst e1
    rw [decide_eq_true (show V.int (((c2.map V.int).length : Nat) : Int) = V.int (n1 : Int) by rw [List.length_map, o2.cl])]
    refine iteF ⟨_, rfl, r1, _, rfl, .inr (SqT.of h1), _, rfl, r2, _, rfl, .inr (SqT.of h2), rfl, _, rfl, ?_⟩
    by_cases e2 : row1.length = row2.length
    case neg =>
      rw [decide_eq_false (show ¬ V.int (((row1.map V.int).length : Nat) : Int) = V.int (((row2.map V.int).length : Nat) : Int) from fun z => by have := V.int.inj z; rw [List.length_map, List.length_map] at this; omega)]
      exact iteT (fin false H (iff_of_false (by decide) fun ⟨_, _, _, _, z⟩ => e2 (by rw [← z.2.2.2.2, List.length_map])) (Same.refl _))
    case pos =>
    rw [decide_eq_true (show V.int (((row1.map V.int).length : Nat) : Int) = V.int (((row2.map V.int).length : Nat) : Int) by rw [List.length_map, List.length_map, e2])]
    refine iteF ⟨_, rfl, _, rfl, n1, x, rfl, m12, hK, fun H1 s1 => ⟨_, rfl, ?_⟩⟩
    cases en : namV H (n1 : Int) x with
    | false => exact iteT (fin false H1 (iff_of_false (by decide) (IsFt.no en)) s1)
    | true =>
    obtain ⟨q, f, rfl, hq, iN⟩ := nam_ints en
    refine iteF ⟨_, rfl, _, rfl, p1, q, n1, c1, f, M1, rfl, pa1.same s1, o1, s1 _ _ hq, iN, m12, fun p' c' M' H2 s2 pa' o' B' A'' => ⟨_, rfl, _, _, pa'.dp, (pa2.same (s1.trans s2)).dp, shaped_of (can_pr _ _ _), shaped_of (can_pr _ _ _), ?_⟩⟩
    have s12 := s1.trans s2
    have fp := fit_pr (M2 := M2) m12 iN o2.cl o'.cl B' A''
    refine ⟨_, rfl, ?_⟩
    cases ev : PyData.eqv (dPr n1 c' M') (dPr n1 c2 M2) with
    | false =>
      refine fin false H2 (iff_of_false (by decide) fun z => ?_) s12
      obtain ⟨_, _, a3, a4, _⟩ := (IsFt.yes hq).mp z
      rw [dPr_eqv.mpr (fp.mpr ⟨a3, a4⟩)] at ev
      cases ev
    | true =>
    obtain ⟨b2, b3⟩ := fp.mp (dPr_eqv.mp ev)
    have lφ := iN.length
    refine ⟨_, rfl, r1, rfl, ⟨_, SqT.of (s12 _ _ h1)⟩, fun D hD => lc_tup (K := K) (a := r1) (xs := row1.map V.int) (fun j H' => Same H2 H' ∧ H' D = some (.lst (((row1.take j).map (fφ f)).map V.int))) ⟨Same.new hD, upd_same⟩ (fun j H' _ h => SqT.of (h.1 _ _ (s12 _ _ h1))) ?_ ?_⟩
    · rintro j y H7 hy ⟨s7, hD7⟩
      rw [List.getElem?_map] at hy
      obtain ⟨b, hb, rfl⟩ := Option.map_eq_some_iff.mp hy
      have hj := (List.getElem?_eq_some_iff.mp hb).1
      have hbi := ok1.inn b (List.mem_of_getElem? hb)
      have hb0 := hbi.1
      refine ⟨rfl, _, rfl, _, rfl, q, _, _, _, rfl, rfl, SqT.of ((s12.trans s7) _ _ hq), at_of (j := b.toNat) (by omega) (by rw [List.getElem?_map, fφ_get iN hbi]; rfl), _, hD7, ?_, same_set2 s7 hD, ?_⟩
      · rw [List.length_map, List.length_map, List.length_take]; exact small1000 (by omega)
      · rw [upd_same, List.take_succ, hb]; simp
    · rintro H7 ⟨s7, hD7⟩
      rw [List.length_map, List.take_length] at hD7
      refine ⟨D, _, rfl, .inl ⟨SqL.of hD7, fun u hu => ?_⟩⟩
      have s8 := s7.step (o := .tup ((row1.map (fφ f)).map V.int)) hu
      refine ⟨_, rfl, dCols (row1.map (fφ f)), dCols row2, dpCols upd_same, dpCols ((s12.trans s8) _ _ h2), shapedT _, shapedT _, ?_⟩
      rw [eqvCols]
      refine fin _ _ ?_ (s12.trans s8)
      rw [decide_eq_true_iff, IsFt.yes hq]
      exact ⟨fun z => ⟨rfl, iN, b2, b3, z⟩, fun z => z.2.2.2.2⟩
theorem sc_fsays : FnScope ["_law_found", "_law_due"] ["_law_found", "_law_due"] (defScope s_fsays) := ⟨rfl, rfl, rfl, by decide +kernel, rfl, by decide +kernel, by decide +kernel⟩
theorem ok_fsays {f : Addr} {fd : FuncData} (F : Fun K "_law_says" "_law_says" s_fsays f fd) (T : Txt mg) : FnOk P w K mg base CX0 1 f fd ["_law_found", "_law_due"] sp_fsays := by
  refine F.ok sc_fsays (fun vs H Q E h => ?_) (fun cdv A outer st H vs Q E hr h => ?_)
  · obtain ⟨a, b, rfl, _⟩ := h
    rfl
  · have nd := sc_fsays.nd
    obtain ⟨a, b, rfl, fin⟩ := h
    refine ⟨_, (pss_cons (ps_if (pt_val (pv 1))
      (pss_one (ps_ret (pe_cmpR op_isB (pv 0) pe_bl (nomark _))))
      pss_nil)
      (pss_one (ps_ret (pe_cmpR op_isB (pv 0) pe_bl (nomark _))))), ?_⟩
    cases b with
    | true => exact ⟨_, rfl, true, rfl, iteT ⟨_, rfl, a, true, rfl, rfl, fin⟩⟩
    | false => exact ⟨_, rfl, false, rfl, iteF ⟨_, rfl, a, false, rfl, rfl, fin⟩⟩
end
end Kx
namespace Kx
open PySem L2
theorem inV_ints {g : Int} {xs : List Int} (h : g ∈ xs) : inV (V.int g) (xs.map V.int) = true := by
  unfold inV
  exact List.any_eq_true.mpr ⟨V.int g, List.mem_map_of_mem h, by simp [eqV]⟩
def sp_fmay : Sp := fun vs H Q _ => ∃ (p1 r1 p2 r2 so : Addr) (m : Nat) (g : Int) (c1 c2 row1 row2 xs : List Int) (M1 M2 : Nat → Nat → Int), vs = [.ref p1, .ref r1, .ref p2, .ref r2, .ref so, .int g] ∧ PairAt H p1 m c1 M1 ∧ c1.length = m ∧ PairAt H p2 m c2 M2 ∧ c2.length = m ∧ m ≤ 12 ∧
  TI H r1 row1 ∧ TI H r2 row2 ∧ row1.length = row2.length ∧ row1.length ≤ 12 ∧ TI H so xs ∧ xs.length < m ∧ (∀ x ∈ xs, Rg.In m x) ∧ Rg.In m g ∧ ∀ (b : Bool) (H' : Hp), (b = true → g ∉ xs) → Same H H' → Q (.bl b) H'
def fal : Nat → Nat → Nat
  | _, 0 => 1
  | n, a + 1 => fal n a * (n - a)
theorem fal_le {n a : Nat} (hn : n ≤ 8) (ha : a ≤ 8) : fal n a ≤ 40320 := by
  have h : ∀ n : Fin 9, ∀ a : Fin 9, fal n.1 a.1 ≤ 40320 := by decide +kernel
  exact h ⟨n, by omega⟩ ⟨a, by omega⟩
def Beg (n a : Nat) (f : List Int) : Prop := f.length = a ∧ RowOk n f
theorem isN_of_beg {n : Nat} {f : List Int} (h : Beg n n f) : Nm.IsN n f :=
  perm_of_sub h.2.nd (fun x hx => (Nm.mem_upTo).mpr (h.2.inn x hx)) (by rw [Nm.upTo_length, h.1]; exact Nat.le_refl _)
def sp_ffitting : Sp := fun vs H Q _ => ∃ (p1 r1 p2 r2 : Addr) (m1 m2 : Nat) (c1 c2 row1 row2 : List Int) (M1 M2 : Nat → Nat → Int), vs = [.ref p1, .ref r1, .ref p2, .ref r2] ∧ PairAt H p1 m1 c1 M1 ∧ c1.length = m1 ∧ PairAt H p2 m2 c2 M2 ∧ c2.length = m2 ∧ m1 ≤ 8 ∧
  TI H r1 row1 ∧ TI H r2 row2 ∧ row1.length ≤ 12 ∧ ∀ (l : Addr) (us : List Addr) (fs : List (List Int)) (H' : Hp), Same H H' → H l = none → H' l = some (.lst (us.map V.ref)) → Paired (TI H') us fs → (∀ f ∈ fs, Nm.IsN m1 f) → Q (.ref l) H'
section
variable {P : Program} {w : World} {K : PySem.W.Frag} {mg : Str → Option Value} {base : Heap}
theorem sc_fmay : FnScope ["_law_one", "_law_row", "_law_other", "_law_other_row", "_law_some", "_law_goal", "_law_a", "_law_b", "_law_k"] ["_law_one", "_law_row", "_law_other", "_law_other_row", "_law_some", "_law_goal"] (defScope s_fmay) := ⟨rfl, rfl, rfl, by decide +kernel, rfl, by decide +kernel, by decide +kernel⟩
set_option maxHeartbeats 4000000 in
theorem ok_fmay {f : Addr} {fd : FuncData} (F : Fun K "_law_may" "_law_may" s_fmay f fd) (T : Txt mg) : FnOk P w K mg base CX0 1 f fd ["_law_one", "_law_row", "_law_other", "_law_other_row", "_law_some", "_law_goal"] sp_fmay := by
  refine F.ok sc_fmay (fun vs H Q E h => ?_) (fun cdv A outer st H vs Q E hr h => ?_)
  · obtain ⟨p1, r1, p2, r2, so, m, g, c1, c2, row1, row2, xs, M1, M2, rfl, _⟩ := h
    rfl
  · have nd := sc_fmay.nd
    obtain ⟨p1, r1, p2, r2, so, m, g, c1, c2, row1, row2, xs, M1, M2, rfl, pa1, l1, pa2, l2, m12, h1, h2, lr, lr12, hs, lx, inn, ig, fin⟩ := h
    refine ⟨_, (pss_cons (ps_set (i := 6) nd rfl (Or.inr rfl) (pe_callB (call_lenK (K := K)) (by rfl) T.len (by decide +kernel) (pa_cons (pv 4) pa_nil)))
      (pss_cons (ps_if (PW.pt (pw_or (pt_cmpR (op_inK (K := K)) (pv 5) (pv 4) (by rfl)) (pw_or1 (pt_cmpR op_ne (pe_ix (ix_tupK (K := K)) (pe_ix (ix_listK (K := K)) (pv 0) pe_int (fun _ _ => rfl)) (pv 6) (fun _ _ => rfl)) (pe_ix (ix_tupK (K := K)) (pe_ix (ix_listK (K := K)) (pv 2) pe_int (fun _ _ => rfl)) (pv 5) (fun _ _ => rfl)) (nomark _)))))
      (pss_one (ps_ret pe_bl))
      pss_nil)
      (pss_cons (ps_if (pt_cmpR (op_neN hr.units) (pe_lc (own := [("_law_k", 8)]) (g := gName 8) (by rfl) nd (pi_range1 (by rfl) T.range (pa_cons (pe_callB (call_lenK (K := K)) (by rfl) T.len (by decide +kernel) (pa_cons (pv 1) pa_nil)) pa_nil)) (blkOk_by (own := [("_law_k", 8)]) (N := ["_law_one", "_law_row", "_law_other", "_law_other_row", "_law_some", "_law_goal", "_law_a", "_law_b", "_law_k"]) (sc := defScope s_fmay) (by decide +kernel)) (fun _ _ _ _ _ => (pg_name (i := 8) nd rfl (Or.inl rfl))) (fun _ _ _ _ _ => pts_one (pt_cmpR op_ne (pe_cmpR op_eq (pe_ix (ix_tupK (K := K)) (pv 1) (pv 8) (fun _ _ => rfl)) (pv 6) (nomark _)) (pe_cmpR op_eq (pe_ix (ix_tupK (K := K)) (pv 3) (pv 8) (fun _ _ => rfl)) (pv 5) (nomark _)) (nomark _))) (fun _ _ _ _ _ => (pv 8))) (pe_lst pa_nil) (nomark _))
      (pss_one (ps_ret pe_bl))
      pss_nil)
      (pss_cons (ps_for PassesOwn.never rfl (pi_range1 (by rfl) T.range (pa_cons (pv 6) pa_nil)) (pg_name (i := 7) nd rfl (Or.inl rfl))
      (pss_one (ps_if (PW.pt (pw_or (pt_cmpR op_ne (pe_ix (ix_listK (K := K)) (pe_ix (ix_listK (K := K)) (pe_ix (ix_listK (K := K)) (pv 0) pe_int (fun _ _ => rfl)) (pv 6) (fun _ _ => rfl)) (pv 7) (fun _ _ => rfl)) (pe_ix (ix_listK (K := K)) (pe_ix (ix_listK (K := K)) (pe_ix (ix_listK (K := K)) (pv 2) pe_int (fun _ _ => rfl)) (pv 5) (fun _ _ => rfl)) (pe_ix (ix_tupK (K := K)) (pv 4) (pv 7) (fun _ _ => rfl)) (fun _ _ => rfl)) (nomark _)) (pw_or1 (pt_cmpR op_ne (pe_ix (ix_listK (K := K)) (pe_ix (ix_listK (K := K)) (pe_ix (ix_listK (K := K)) (pv 0) pe_int (fun _ _ => rfl)) (pv 7) (fun _ _ => rfl)) (pv 6) (fun _ _ => rfl)) (pe_ix (ix_listK (K := K)) (pe_ix (ix_listK (K := K)) (pe_ix (ix_listK (K := K)) (pv 2) pe_int (fun _ _ => rfl)) (pe_ix (ix_tupK (K := K)) (pv 4) (pv 7) (fun _ _ => rfl)) (fun _ _ => rfl)) (pv 5) (fun _ _ => rfl)) (nomark _)))))
      (pss_one (ps_ret pe_bl))
      pss_nil)))
      (pss_one (ps_ret pe_bl)))))), ?_⟩
    have g0 := ig.1
    have g1 := ig.2
    obtain ⟨t1, k1, rs1, hp1, hc1, gm1⟩ := id pa1
    obtain ⟨t2, k2, rs2, hp2, hc2, gm2⟩ := id pa2
    have no : ∀ {H' : Hp}, Same H H' → Q (.bl false) H' := fun s => fin false _ (fun z => nomatch z) s
    refine ⟨_, rfl, so, _, rfl, .inr (SqT.of hs), ?_⟩
    rw [List.length_map]
    refine ⟨_, rfl, _, rfl, so, _, rfl, .inr (SqT.of hs), rfl, flat_ints _, _, rfl, ?_⟩
    refine ite2 (fun _ => no (Same.refl _)) (fun hn => ?_)
    have gx : g ∉ xs := fun z => hn (inV_ints z)
    have ia : Rg.In m ((xs.length : Nat) : Int) := ⟨by omega, by omega⟩
    have ec1 : (c1.map V.int)[xs.length]? = some (.int (c1[xs.length]'(by omega))) := by rw [List.getElem?_map, List.getElem?_eq_getElem (by omega)]; rfl
    have ec2 : (c2.map V.int)[g.toNat]? = some (.int (c2[g.toNat]'(by omega))) := by rw [List.getElem?_map, List.getElem?_eq_getElem (by omega)]; rfl
    refine ⟨_, rfl, p1, _, _, _, rfl, rfl, SqL.of hp1, at_of (j := 0) rfl rfl, _, rfl, t1, _, _, _, rfl, rfl, SqT.of hc1, at_of (j := xs.length) rfl ec1, ?_⟩
    refine ⟨_, rfl, p2, _, _, _, rfl, rfl, SqL.of hp2, at_of (j := 0) rfl rfl, _, rfl, t2, _, _, _, rfl, rfl, SqT.of hc2, at_of (j := g.toNat) (by omega) ec2, rfl, _, rfl, ?_⟩
    refine ite2 (fun _ => no (Same.refl _)) (fun _ => ?_)
    refine ⟨_, rfl, r1, _, rfl, .inr (SqT.of h1), (row1.length : Int), by rw [List.length_map], by omega, by omega, fun D hD => lc_range (lo := 0) (n := row1.length) (fun i H' => Same H H' ∧ ∃ ys, H' D = some (.lst ys) ∧ ys.length ≤ i) ⟨Same.new hD, [], upd_same, Nat.le_refl _⟩ ?_ ?_⟩
    · rintro i H1 hi ⟨s1, ys, hD1, ly⟩
      have e1 : (row1.map V.int)[i]? = some (.int (row1[i]'(by omega))) := by rw [List.getElem?_map, List.getElem?_eq_getElem (by omega)]; rfl
      have e2 : (row2.map V.int)[i]? = some (.int (row2[i]'(by omega))) := by rw [List.getElem?_map, List.getElem?_eq_getElem (by omega)]; rfl
      refine ⟨rfl, _, rfl, _, rfl, r1, _, _, _, rfl, rfl, SqT.of (s1 _ _ h1), at_of (j := i) (by omega) e1, _, rfl, rfl, _, rfl, _, rfl, r2, _, _, _, rfl, rfl, SqT.of (s1 _ _ h2), at_of (j := i) (by omega) e2, _, rfl, rfl, rfl, _, rfl, ?_⟩
      refine ite2 (fun _ => ?_) (fun _ => ⟨s1, ys, hD1, by omega⟩)
      exact ⟨_, rfl, _, hD1, small1000 (by omega), same_set2 s1 hD, _, upd_same, by rw [List.length_append]; show ys.length + 1 ≤ i + 1; omega⟩
    rintro H1 ⟨s1, ys, hD1, _⟩
    refine ⟨Nat.zero_le _, fun e he => ⟨D, e, ys, rfl, rfl, Same.new he _ _ hD1, upd_same, _, rfl, ?_⟩⟩
    have s2 := s1.step (o := .lst []) he
    generalize upd H1 e (.lst []) = H2 at s2 ⊢
    refine ite2 (fun _ => no s2) (fun _ => ?_)
    have a1 : ∀ {H' : Hp}, Same H H' → Grid H' k1 rs1 m (IG M1) := fun s => gm1.same s
    have a2 : ∀ {H' : Hp}, Same H H' → Grid H' k2 rs2 m (IG M2) := fun s => gm2.same s
    refine ⟨_, rfl, (xs.length : Int), rfl, by omega, by omega, for_range (lo := 0) (n := xs.length) (fun i σ H' => (∃ v7 v8, σ = [some (.ref p1), some (.ref r1), some (.ref p2), some (.ref r2), some (.ref so), some (.int g), some (.int ((xs.length : Nat) : Int)), v7, v8]) ∧ Same H H') ⟨⟨_, _, rfl⟩, s2⟩ ?_ ?_⟩
    · rintro i σ H3 hi ⟨⟨v7, v8, rfl⟩, s3⟩
      have gi : xs[i]? = some (xs[i]'hi) := List.getElem?_eq_getElem hi
      have ix := inn _ (List.getElem_mem hi)
      have ei : (xs.map V.int)[i]? = some (.int (xs[i]'hi)) := by rw [List.getElem?_map, gi]; rfl
      have ii : Rg.In m (i : Int) := ⟨by omega, by omega⟩
      have h13 := s3 _ _ hp1
      have h23 := s3 _ _ hp2
      have hs3 := s3 _ _ hs
      have tp1 := (a1 s3).top
      have tp2 := (a2 s3).top
      obtain ⟨ra, ea, ma, ata, rowa⟩ := (a1 s3).getI ia
      obtain ⟨rg, eg, mg', atg, rowg⟩ := (a2 s3).getI ig
      obtain ⟨rb, eb, mb, atb, rowb⟩ := (a1 s3).getI ii
      obtain ⟨rx, ex, mx, atx, rowx⟩ := (a2 s3).getI ix
      rw [Int.zero_add]
      refine ⟨_, rfl, p1, _, _, _, rfl, rfl, SqL.of h13, at_of (j := 1) rfl rfl, _, rfl, k1, _, _, _, rfl, rfl, SqL.of tp1, ata, _, rfl, ra, _, _, _, rfl, rfl, SqL.of rowa, rowV_atI ii, ?_⟩
      refine ⟨_, rfl, p2, _, _, _, rfl, rfl, SqL.of h23, at_of (j := 1) rfl rfl, _, rfl, k2, _, _, _, rfl, rfl, SqL.of tp2, atg, _, rfl, _, rfl, so, _, _, _, rfl, rfl, SqT.of hs3, at_of (j := i) rfl ei, rg, _, _, _, rfl, rfl, SqL.of rowg, rowV_atI ix, rfl, _, rfl, ?_⟩
      refine ite2 (fun _ => no s3) (fun _ => ?_)
      refine ⟨_, rfl, p1, _, _, _, rfl, rfl, SqL.of h13, at_of (j := 1) rfl rfl, _, rfl, k1, _, _, _, rfl, rfl, SqL.of tp1, atb, _, rfl, rb, _, _, _, rfl, rfl, SqL.of rowb, rowV_atI ia, ?_⟩
      refine ⟨_, rfl, p2, _, _, _, rfl, rfl, SqL.of h23, at_of (j := 1) rfl rfl, _, rfl, _, rfl, so, _, _, _, rfl, rfl, SqT.of hs3, at_of (j := i) rfl ei, k2, _, _, _, rfl, rfl, SqL.of tp2, atx, _, rfl, rx, _, _, _, rfl, rfl, SqL.of rowx, rowV_atI ig, rfl, _, rfl, ?_⟩
      exact ite2 (fun _ => no s3) (fun _ => ⟨⟨_, _, rfl⟩, s3⟩)
    · rintro σ H3 ⟨⟨v7, v8, rfl⟩, s3⟩
      exact fin true H3 (fun _ => gx) s3
theorem sc_ffitting : FnScope ["_law_one", "_law_row", "_law_other", "_law_other_row", "_law_many", "_law_found", "_law_a", "_law_longer", "_law_some", "_law_k"] ["_law_one", "_law_row", "_law_other", "_law_other_row"] (defScope s_ffitting) := ⟨rfl, rfl, rfl, by decide +kernel, rfl, by decide +kernel, by decide +kernel⟩
set_option maxHeartbeats 4000000 in
theorem ok_ffitting {f : Addr} {fd : FuncData} (F : Fun K "_law_fitting" "_law_fitting" s_ffitting f fd) (T : Txt mg) (F_fmay : Fn P w K mg base "_law_may" 1 ["_law_one", "_law_row", "_law_other", "_law_other_row", "_law_some", "_law_goal"] sp_fmay) : FnOk P w K mg base CX0 2 f fd ["_law_one", "_law_row", "_law_other", "_law_other_row"] sp_ffitting := by
  refine F.ok sc_ffitting (fun vs H Q E h => ?_) (fun cdv A outer st H vs Q E hr h => ?_)
  · obtain ⟨p1, r1, p2, r2, m1, m2, c1, c2, row1, row2, M1, M2, rfl, _⟩ := h
    rfl
  · have nd := sc_ffitting.nd
    obtain ⟨p1, r1, p2, r2, m, m2, c1, c2, row1, row2, M1, M2, rfl, pa1, l1, pa2, l2, m8, h1, h2, lr12, fin⟩ := h
    refine ⟨_, (pss_cons (ps_set (i := 4) nd rfl (Or.inl rfl) (pe_callB (call_lenK (K := K)) (by rfl) T.len (by decide +kernel) (pa_cons (pe_ix (ix_listK (K := K)) (pv 0) pe_int (fun _ _ => rfl)) pa_nil)))
      (pss_cons (ps_if (PW.pt (pw_or (pt_cmpR op_ne (pe_callB (call_lenK (K := K)) (by rfl) T.len (by decide +kernel) (pa_cons (pe_ix (ix_listK (K := K)) (pv 2) pe_int (fun _ _ => rfl)) pa_nil)) (pv 4) (nomark _)) (pw_or1 (pt_cmpR op_ne (pe_callB (call_lenK (K := K)) (by rfl) T.len (by decide +kernel) (pa_cons (pv 1) pa_nil)) (pe_callB (call_lenK (K := K)) (by rfl) T.len (by decide +kernel) (pa_cons (pv 3) pa_nil)) (nomark _)))))
      (pss_one (ps_ret (pe_lst pa_nil)))
      pss_nil)
      (pss_cons (ps_set (i := 5) nd rfl (Or.inl rfl) (pe_lst (pa_cons (pe_tup pa_nil) pa_nil)))
      (pss_cons (ps_for PassesOwn.never rfl (pi_range1 (by rfl) T.range (pa_cons (pv 4) pa_nil)) (pg_name (i := 6) nd rfl (Or.inl rfl))
      (pss_cons (ps_set (i := 7) nd rfl (Or.inl rfl) (pe_lst pa_nil))
      (pss_cons (ps_for PassesOwn.never rfl (pi_listK (K := K) (pv 5)) (pg_name (i := 8) nd rfl (Or.inr rfl))
      (pss_one (ps_expr (pe_bmK (K := K) PySem.F.plainAttrs_list PySem.F.slot_list_extend PySem.F.type_list_extend mt_extend (pv 7) (pa_cons (pe_lc (own := [("_law_k", 9)]) (g := gName 9) (by rfl) nd (pi_range1 (by rfl) T.range (pa_cons (pv 4) pa_nil)) (blkOk_by (own := [("_law_k", 9)]) (N := ["_law_one", "_law_row", "_law_other", "_law_other_row", "_law_many", "_law_found", "_law_a", "_law_longer", "_law_some", "_law_k"]) (sc := defScope s_ffitting) (by decide +kernel)) (fun _ _ _ _ _ => (pg_name (i := 9) nd rfl (Or.inl rfl))) (fun _ _ _ _ _ => pts_one (pt_val (pe_fn F_fmay hr (pa_cons (pv 0) (pa_cons (pv 1) (pa_cons (pv 2) (pa_cons (pv 3) (pa_cons (pv 8) (pa_cons (pv 9) pa_nil))))))))) (fun _ _ _ _ _ => (pe_op (op_catS (K := K)) (pv 8) (pe_tup (pa_cons (pv 9) pa_nil))))) pa_nil)))))
      (pss_one (ps_set (i := 5) nd rfl (Or.inl rfl) (pv 7))))))
      (pss_one (ps_ret (pv 5))))))), ?_⟩
    obtain ⟨t1, k1, rs1, hp1, hc1, gm1⟩ := id pa1
    obtain ⟨t2, k2, rs2, hp2, hc2, gm2⟩ := id pa2
    have empty : ∀ l : Addr, H l = none → Q (.ref l) (upd H l (.lst [])) := fun l hl => fin l [] [] _ (Same.new hl) hl upd_same .nil (fun f hf => nomatch hf)
    refine ⟨_, rfl, p1, _, _, _, rfl, rfl, SqL.of hp1, at_of (j := 0) rfl rfl, t1, _, rfl, .inr (SqT.of hc1), ?_⟩
    rw [List.length_map, l1]
    refine ⟨_, rfl, p2, _, _, _, rfl, rfl, SqL.of hp2, at_of (j := 0) rfl rfl, t2, _, rfl, .inr (SqT.of hc2), _, rfl, rfl, _, rfl, ?_⟩
    refine ite2 (fun _ => ⟨Nat.zero_le _, fun l hl => empty l hl⟩) (fun hne => ?_)
    have em : m2 = m := by
      by_cases e : m2 = m
      · exact e
      · exact absurd (by rw [decide_eq_false (show ¬ V.int (((c2.map V.int).length : Nat) : Int) = V.int (m : Int) from fun z => e (by have := V.int.inj z; rw [List.length_map] at this; omega))]; rfl) hne
    subst em
    refine ⟨_, rfl, r1, _, rfl, .inr (SqT.of h1), _, rfl, r2, _, rfl, .inr (SqT.of h2), rfl, _, rfl, ?_⟩
    refine ite2 (fun _ => ⟨Nat.zero_le _, fun l hl => empty l hl⟩) (fun hne2 => ?_)
    have er : row1.length = row2.length := by
      by_cases e : row1.length = row2.length
      · exact e
      · exact absurd (by rw [decide_eq_false (show ¬ V.int (((row1.map V.int).length : Nat) : Int) = V.int (((row2.map V.int).length : Nat) : Int) from fun z => e (by have := V.int.inj z; rw [List.length_map, List.length_map] at this; omega))]; rfl) hne2
    refine ⟨Nat.zero_le _, fun e he => ⟨(by show 1 ≤ sizeLine; decide), fun l hl => ?_⟩⟩
    have s0 := (Same.new (o := .tup []) he).step (o := .lst [.ref e]) hl
    have l0 := (Same.new (o := .tup []) he).free hl
    have he0 := Same.new (o := .lst [V.ref e]) hl _ _ (upd_same (H := H) (a := e) (o := .tup []))
    have hl0 := upd_same (H := upd H e (.tup [])) (a := l) (o := .lst [V.ref e])
    generalize upd (upd H e (.tup [])) l (.lst [.ref e]) = H0 at s0 he0 hl0 ⊢
    refine ⟨_, rfl, (m2 : Int), rfl, by omega, by omega, for_range (lo := 0) (n := m2) (fun a σ H' => (∃ (l : Addr) (us : List Addr) (fs : List (List Int)) (v6 v7 v8 : Option V), σ = [some (.ref p1), some (.ref r1), some (.ref p2), some (.ref r2), some (.int (m2 : Int)), some (.ref l), v6, v7, v8, none] ∧ H l = none ∧ H' l = some (.lst (us.map V.ref)) ∧ Paired (TI H') us fs ∧ fs.length ≤ fal m2 a ∧ ∀ f ∈ fs, Beg m2 a f) ∧ Same H H') ⟨⟨l, [e], [[]], _, _, _, rfl, l0, hl0, .cons he0 .nil, Nat.le_refl _, fun f hf => by rw [List.mem_singleton.mp hf]; exact ⟨rfl, List.nodup_nil, fun x hx => nomatch hx⟩⟩, s0⟩ ?_ ?_⟩
    · rintro a σ H1 ha ⟨⟨l, us, fs, v6, v7, v8, rfl, ln, hl1, prd, lf, beg⟩, s1⟩
      have lus : us.length = fs.length := Paired.length prd
      have fb := fal_le (n := m2) (a := a) m8 (by omega)
      have fb1 := fal_le (n := m2) (a := a + 1) m8 (by omega)
      refine ⟨Nat.zero_le _, fun g hg => ?_⟩
      have sg := Same.new (o := .lst []) hg
      have gl : l ≠ g := ne_of_none hl1 hg
      have gn := s1.free hg
      refine ⟨_, rfl, l, rfl, ⟨_, SqL.of (sg _ _ hl1)⟩, for_list (K := K) (a := l) (xs := us.map V.ref) (fun i σ H' => (∃ (v8 : Option V) (vs : List Addr) (gs : List (List Int)), σ = [some (.ref p1), some (.ref r1), some (.ref p2), some (.ref r2), some (.int (m2 : Int)), some (.ref l), some (.int (0 + (a : Int))), some (.ref g), v8, none] ∧ H' g = some (.lst (vs.map V.ref)) ∧ Paired (TI H') vs gs ∧ gs.length ≤ i * (m2 - a) ∧ ∀ f ∈ gs, Beg m2 (a + 1) f) ∧ Same H1 H') ⟨⟨_, [], [], rfl, upd_same, .nil, Nat.zero_le _, fun f hf => nomatch hf⟩, sg⟩ (fun i σ H' _ h => SqL.of (h.2 _ _ hl1)) ?_ ?_⟩
      · rintro i x σ H2 hx ⟨⟨v8, vs, gs, rfl, hg2, prg, lg, bg⟩, s2⟩
        rw [List.getElem?_map] at hx
        obtain ⟨u, hu, rfl⟩ := Option.map_eq_some_iff.mp hx
        obtain ⟨f, hf, hfu⟩ := paired_get prd hu
        have hi := (List.getElem?_eq_some_iff.mp hu).1
        obtain ⟨fl, fr⟩ := beg f (List.mem_of_getElem? hf)
        have hu2 : TI H2 u f := s2 _ _ hfu
        have s02 := s1.trans s2
        have lgs : gs.length ≤ 40320 := Nat.le_trans lg (Nat.le_trans (Nat.mul_le_mul_right _ (by omega : i ≤ fal m2 a)) fb1)
        have lvs : vs.length = gs.length := Paired.length prg
        refine ⟨_, rfl, .inl ⟨rfl, _, SqL.of hg2⟩, _, rfl, (m2 : Int), rfl, by omega, by omega, fun D hD => lc_range (lo := 0) (n := m2) (fun j H' => Same H2 H' ∧ ∃ (ws : List Addr) (ks : List Int), H' D = some (.lst (ws.map V.ref)) ∧ Paired (TI H') ws (ks.map fun k => f ++ [k]) ∧ ks.Nodup ∧ ∀ k ∈ ks, 0 ≤ k ∧ k < j ∧ k ∉ f) ⟨Same.new hD, [], [], upd_same, .nil, List.nodup_nil, fun k hk => nomatch hk⟩ ?_ ?_⟩
        · rintro j H3 hj ⟨s3, ws, ks, hD3, prw, ndk, bk⟩
          have s03 := s02.trans s3
          rw [Int.zero_add]
          have rok : RowOk m2 ks := ⟨ndk, fun k hk => ⟨(bk k hk).1, by have := (bk k hk).2.1; omega⟩⟩
          have lks := row_len rok
          have lws : ws.length = ks.length := by have := Paired.length prw; rw [List.length_map] at this; exact this
          refine ⟨rfl, _, rfl, _, rfl, _, rfl, _, rfl, _, rfl, _, rfl, p1, r1, p2, r2, u, m2, (j : Int), c1, c2, row1, row2, f, M1, M2, rfl, pa1.same s03, l1, pa2.same s03, l2, by omega, s03 _ _ h1, s03 _ _ h2, er, lr12, s3 _ _ hu2, by omega, fr.inn, ⟨by omega, by omega⟩, fun b H4 hb s4 => ⟨b, rfl, ?_⟩⟩
          cases b with
          | false => exact iteF ⟨s3.trans s4, ws, ks, s4 _ _ hD3, Paired.mapP prw fun _ _ z => s4 _ _ z, ndk, fun k hk => ⟨(bk k hk).1, by have := (bk k hk).2.1; omega, (bk k hk).2.2⟩⟩
          | true =>
            have nf := hb rfl
            refine iteT ⟨_, rfl, _, rfl, (by show 1 ≤ sizeLine; decide), fun q hq => ⟨u, q, _, _, rfl, rfl, Same.new hq _ _ (s4 _ _ (s3 _ _ hu2)), upd_same, ?_, fun q2 H5 s5 hq2 => ?_⟩⟩
            · rw [List.length_map]; exact Nat.le_trans (show f.length + 1 ≤ 13 by omega) (by decide)
            have s45 := (s4.step (o := .tup [.int (j : Int)]) hq).trans s5
            have hD5 := s45 _ _ hD3
            have hq2' : TI H5 q2 (f ++ [(j : Int)]) := by show H5 q2 = _; rw [hq2, List.map_append]; rfl
            refine ⟨_, hD5, by rw [List.length_map]; exact small1000 (by omega), same_set2 (s3.trans s45) hD, ws ++ [q2], ks ++ [(j : Int)], by rw [upd_same, List.map_append]; rfl, ?_, ?_, ?_⟩
            · have up : ∀ t (r : List Int), TI H5 t r → TI (upd H5 D (.lst (ws.map V.ref ++ [.ref q2]))) t r := fun t r z => by
                show upd H5 D _ t = _
                rw [upd_ne (ne_of z hD5 (by intro q; cases q))]; exact z
              rw [List.map_append]
              exact paired_app (Paired.mapP prw fun _ _ z => up _ _ (s45 _ _ z)) (.cons (up _ _ hq2') .nil)
            · refine List.nodup_append.mpr ⟨ndk, by simp, fun x hx y hy e => ?_⟩
              rw [List.mem_singleton.mp hy] at e
              have := (bk x hx).2.1
              omega
            · intro k hk
              rcases List.mem_append.mp hk with z | z
              · exact ⟨(bk k z).1, by have := (bk k z).2.1; omega, (bk k z).2.2⟩
              · rw [List.mem_singleton.mp z]; exact ⟨by omega, by omega, nf⟩
        rintro H3 ⟨s3, ws, ks, hD3, prw, ndk, bk⟩
        have rok : RowOk m2 (f ++ ks) := ⟨List.nodup_append.mpr ⟨fr.nd, ndk, fun x hx y hy e => (bk y hy).2.2 (by rw [← e]; exact hx)⟩, fun x hx => by
          rcases List.mem_append.mp hx with z | z
          · exact fr.inn x z
          · exact ⟨(bk x z).1, (bk x z).2.1⟩⟩
        have lks := row_len rok
        rw [List.length_append] at lks
        have lws : ws.length = ks.length := by have := Paired.length prw; rw [List.length_map] at this; exact this
        have hg3 := s3 _ _ hg2
        refine ⟨g, D, _, _, rfl, rfl, hg3, hD3, ?_, ?_⟩
        · rw [List.length_map, List.length_map]
          exact Nat.le_trans (show vs.length + ws.length ≤ 41000 by omega) (by rw [sizeLine_eq]; decide)
        have up : ∀ t (r : List Int), TI H3 t r → TI (upd H3 g (.lst (vs.map V.ref ++ ws.map V.ref))) t r := fun t r z => by
          show upd H3 g _ t = _
          rw [upd_ne (ne_of z hg3 (by intro q; cases q))]; exact z
        refine ⟨⟨_, vs ++ ws, gs ++ ks.map (fun k => f ++ [k]), rfl, by rw [upd_same, List.map_append], paired_app (Paired.mapP prg fun _ _ z => up _ _ (s3 _ _ z)) (Paired.mapP prw fun _ _ z => up _ _ z), ?_, ?_⟩, ?_⟩
        · rw [List.length_append, List.length_map, Nat.add_mul, Nat.one_mul]; omega
        · intro x hx
          rcases List.mem_append.mp hx with z | z
          · exact bg x z
          · obtain ⟨k, hk, rfl⟩ := List.mem_map.mp z
            refine ⟨by rw [List.length_append, fl]; rfl, List.nodup_append.mpr ⟨fr.nd, by simp, fun x hx y hy e => ?_⟩, fun x hx => ?_⟩
            · rw [List.mem_singleton.mp hy] at e
              exact (bk k hk).2.2 (by rw [← e]; exact hx)
            · rcases List.mem_append.mp hx with z | z
              · exact fr.inn x z
              · rw [List.mem_singleton.mp z]; exact ⟨(bk k hk).1, (bk k hk).2.1⟩
        · exact same_set2 (s2.trans s3) hg
      · rintro σ H2 ⟨⟨v8, vs, gs, rfl, hg2, prg, lg, bg⟩, s2⟩
        refine ⟨_, rfl, ⟨g, vs, gs, _, _, _, rfl, gn, hg2, prg, ?_, bg⟩, s1.trans s2⟩
        rw [List.length_map] at lg
        exact Nat.le_trans lg (by rw [lus]; exact Nat.mul_le_mul_right _ lf)
    · rintro σ H1 ⟨⟨l, us, fs, v6, v7, v8, rfl, ln, hl1, prd, lf, beg⟩, s1⟩
      exact ⟨_, rfl, fin l us fs H1 s1 ln hl1 prd fun f hf => isN_of_beg (beg f hf)⟩
end
end Kx
namespace Kx
open PySem L2
theorem cutI (ns : List Int) (lo hi : Option Int) : ∃ ms : List Int, cutV (ns.map V.int) lo hi = ms.map V.int ∧ ms.length ≤ ns.length ∧ ∀ x ∈ ms, x ∈ ns := by
  unfold cutV
  refine ⟨(ns.drop (HT.sIx (ns.map V.int).length 0 lo)).take (HT.sIx (ns.map V.int).length (ns.map V.int).length hi - HT.sIx (ns.map V.int).length 0 lo), ?_, ?_, ?_⟩
  · rw [List.map_take, List.map_drop]
  · rw [List.length_take, List.length_drop]; omega
  · intro x hx
    exact List.mem_of_mem_drop (List.mem_of_mem_take hx)
def ElA (y : V) : Prop := y = .non ∨ (∃ b, y = .bl b) ∨ ∃ i : Int, y = .int i ∧ i.natAbs.log2 < 64
def ElB (H : Hp) (y : V) : Prop := (∃ i : Int, y = .int i ∧ i.natAbs.log2 < 64) ∨ ∃ b, y = .ref b ∧ TI H b [0]
inductive Th (c : Addr) (ex : List Addr) (H : Hp) : V → Prop
  | sc {y : V} : ElA y → Th c ex H y
  | str {z : Str} : z = ("" : Str) ∨ z = ("01" : Str) → Th c ex H (.str z)
  | tupA {a : Addr} {xs : List V} : H a = some (.tup xs) → xs.length ≤ 30 → (∀ y ∈ xs, ElA y) → Th c ex H (.ref a)
  | tupB {a : Addr} {xs : List V} : H a = some (.tup xs) → xs.length ≤ 30 → (∀ y ∈ xs, ElB H y) → Th c ex H (.ref a)
  | lstB {a : Addr} {xs : List V} : H a = some (.lst xs) → a ∉ ex → xs.length ≤ 30 → (∀ y ∈ xs, ElB H y) → Th c ex H (.ref a)
  | nestT {a b : Addr} {ns : List Int} : H a = some (.tup [.ref b]) → TI H b ns → ns.length ≤ 12 → (∀ n ∈ ns, n.natAbs.log2 < 64) → Th c ex H (.ref a)
  | nestL {a b : Addr} {ns : List Int} : H a = some (.lst [.ref b]) → a ∉ ex → TI H b ns → ns.length ≤ 12 → (∀ n ∈ ns, n.natAbs.log2 < 64) → Th c ex H (.ref a)
  | dct {a : Addr} : H a = some (.dK [(Sum.inl 0, .int 0)]) → Th c ex H (.ref a)
  | web {a : Addr} : WebAt c H a [] [] → Th c ex H (.ref a)
def LX (H : Hp) (ex : List Addr) : Prop := ∀ e ∈ ex, ∃ xs, H e = some (.lst xs)
theorem LX.keep {H H' : Hp} {ex ex' : List Addr} (h : LX H ex) (k : Keep ex' H H') (h' : LX H' ex') : LX H' ex := fun e he => by
  by_cases m : e ∈ ex'
  · exact h' e m
  · obtain ⟨xs, z⟩ := h e he
    exact ⟨xs, k _ _ z m⟩
theorem LX.no {H : Hp} {ex : List Addr} {l : Addr} (h : LX H ex) (n : H l = none) : l ∉ ex := fun m => by
  obtain ⟨xs, z⟩ := h l m
  rw [n] at z; cases z
theorem LX.nt {H : Hp} {ex : List Addr} {l : Addr} {o : HO} (h : LX H ex) (e : H l = some o) (n : ∀ ys, o ≠ .lst ys) : l ∉ ex := fun m => by
  obtain ⟨xs, z⟩ := h l m
  rw [e] at z
  injection z with z
  exact n _ z
theorem ElB.keep {H H' : Hp} {ex : List Addr} (hs : LX H ex) (k : Keep ex H H') {y : V} (h : ElB H y) : ElB H' y := h.imp id fun ⟨b, e, t⟩ => ⟨b, e, k _ _ t (hs.nt t (by intro _ z; cases z))⟩
theorem Th.keep {c : Addr} {ex : List Addr} {H H' : Hp} (hs : LX H ex) (k : Keep ex H H') {x : V} (h : Th c ex H x) : Th c ex H' x := by
  have ne : ∀ {a : Addr} {o : HO}, H a = some o → (∀ ys, o ≠ .lst ys) → H' a = some o := fun {a o} e n => k _ _ e (hs.nt e n)
  have nl : ∀ {a : Addr} {o : HO}, H a = some o → a ∉ ex → H' a = some o := fun e n => k _ _ e n
  cases h with
  | sc h => exact .sc h
  | str h => exact .str h
  | tupA h l e => exact .tupA (ne h (by intro _ z; cases z)) l e
  | tupB h l e => exact .tupB (ne h (by intro _ z; cases z)) l fun y hy => (e y hy).keep hs k
  | lstB h n l e => exact .lstB (nl h n) n l fun y hy => (e y hy).keep hs k
  | nestT h t l e => exact .nestT (ne h (by intro _ z; cases z)) (ne t (by intro _ z; cases z)) l e
  | nestL h n t l e => exact .nestL (nl h n) n (ne t (by intro _ z; cases z)) l e
  | dct h => exact .dct (ne h (by intro _ z; cases z))
  | web h => exact .web (h.nl fun b o e n => ne e n)
theorem Th.sub {c : Addr} {ex ex' : List Addr} {H : Hp} (hs : ∀ e ∈ ex', e ∈ ex) {x : V} (h : Th c ex H x) : Th c ex' H x := by
  cases h with
  | sc h => exact .sc h
  | str h => exact .str h
  | tupA h l e => exact .tupA h l e
  | tupB h l e => exact .tupB h l e
  | lstB h n l e => exact .lstB h (fun m => n (hs _ m)) l e
  | nestT h t l e => exact .nestT h t l e
  | nestL h n t l e => exact .nestL h (fun m => n (hs _ m)) t l e
  | dct h => exact .dct h
  | web h => exact .web h
theorem Th.same {c : Addr} {ex : List Addr} {H H' : Hp} (k : Same H H') {x : V} (h : Th c ex H x) : Th c ex H' x := by
  cases h with
  | sc h => exact .sc h
  | str h => exact .str h
  | tupA h l e => exact .tupA (k _ _ h) l e
  | tupB h l e => exact .tupB (k _ _ h) l fun y hy => (e y hy).imp id fun ⟨b, e, t⟩ => ⟨b, e, k _ _ t⟩
  | lstB h n l e => exact .lstB (k _ _ h) n l fun y hy => (e y hy).imp id fun ⟨b, e, t⟩ => ⟨b, e, k _ _ t⟩
  | nestT h t l e => exact .nestT (k _ _ h) (k _ _ t) l e
  | nestL h n t l e => exact .nestL (k _ _ h) n (k _ _ t) l e
  | dct h => exact .dct (k _ _ h)
  | web h => exact .web (h.same k)
theorem elA_d {H : Hp} {y : V} (h : ElA y) : ∃ d, Bx H y d ∧ Small d := by
  rcases h with rfl | ⟨b, rfl⟩ | ⟨i, rfl, hi⟩
  · exact ⟨_, .non, Small.none⟩
  · exact ⟨_, .bl b, Small.bool b⟩
  · exact ⟨_, .int i, Small.int (by omega)⟩
theorem elA_all {H : Hp} : ∀ {xs : List V}, (∀ y ∈ xs, ElA y) → ∃ ds, Paired (Bx H) xs ds ∧ ds.length = xs.length ∧ ∀ d ∈ ds, Small d
  | [], _ => ⟨[], .nil, rfl, fun d hd => nomatch hd⟩
  | x :: xs, h => by
    obtain ⟨d, h1, h2⟩ := elA_d (H := H) (h x List.mem_cons_self)
    obtain ⟨ds, g1, g2, g3⟩ := elA_all fun y hy => h y (List.mem_cons_of_mem _ hy)
    refine ⟨d :: ds, .cons h1 g1, by rw [List.length_cons, List.length_cons, g2], fun e he => ?_⟩
    rcases List.mem_cons.mp he with rfl | z
    · exact h2
    · exact g3 e z
theorem elB_d {K : PySem.W.Frag} {H : Hp} {y : V} (h : ElB H y) : ∃ d, Dp K H y d ∧ Small d := by
  rcases h with ⟨i, rfl, hi⟩ | ⟨b, rfl, t⟩
  · exact ⟨_, .int i, Small.int (by omega)⟩
  · exact ⟨.tuple ([0].map PyData.int), .tup (SqT.of t) (dpInts [0]), ⟨by decide +kernel, by decide +kernel, by decide +kernel, by decide +kernel⟩⟩
theorem elB_all {K : PySem.W.Frag} {H : Hp} : ∀ {xs : List V}, (∀ y ∈ xs, ElB H y) → ∃ ds, DpAll K H xs ds ∧ ds.length = xs.length ∧ ∀ d ∈ ds, Small d
  | [], _ => ⟨[], .nil, rfl, fun d hd => nomatch hd⟩
  | x :: xs, h => by
    obtain ⟨d, h1, h2⟩ := elB_d (K := K) (h x List.mem_cons_self)
    obtain ⟨ds, g1, g2, g3⟩ := elB_all (K := K) fun y hy => h y (List.mem_cons_of_mem _ hy)
    refine ⟨d :: ds, .cons h1 g1, by rw [List.length_cons, List.length_cons, g2], fun e he => ?_⟩
    rcases List.mem_cons.mp he with rfl | z
    · exact h2
    · exact g3 e z
theorem nest_shown {ns : List Int} (l : ns.length ≤ 12) (h : ∀ n ∈ ns, n.natAbs.log2 < 64) : Shown (.tuple [.tuple (ns.map PyData.int)]) ∧ Shown (.list [.tuple (ns.map PyData.int)]) := by
  have a : ∀ ms : List Int, (∀ n ∈ ms, n.natAbs.log2 < 64) → PyData.showableAll (ms.map PyData.int) = true ∧ PyData.leavesShortAll 1922 (ms.map PyData.int) = true ∧ PyData.weightAll (ms.map PyData.int) ≤ 70 * ms.length := by
    intro ms
    induction ms with
    | nil => intro _; exact ⟨rfl, rfl, by simp [PyData.weightAll]⟩
    | cons m ms ih =>
      intro h
      obtain ⟨h1, h3, h4⟩ := ih fun n hn => h n (List.mem_cons_of_mem _ hn)
      have hm := h m List.mem_cons_self
      have hL := int_text_length_le (a := m) (k := 64) (by decide) hm
      have hm2 : m.natAbs.log2 < 1920 := by omega
      refine ⟨?_, ?_, ?_⟩
      · simp only [List.map_cons, PyData.showableAll, PyData.showable, h1, Bool.and_true, decide_eq_true hm2]
      · simp only [List.map_cons, PyData.leavesShortAll, PyData.leavesShort, h3, Bool.and_true, decide_eq_true_eq]
        show (Str.ofString (toString m)).length ≤ 1922
        rw [PySem.ofString_length]
        omega
      · simp only [List.map_cons, PyData.weightAll, PyData.weight, List.length_cons]; split <;> omega
  obtain ⟨h1, h2, h3⟩ := a ns h
  have h4 := depthInts ns
  refine ⟨⟨?_, ?_, ?_, ?_⟩, ⟨?_, ?_, ?_, ?_⟩⟩ <;> simp only [PyData.showable, PyData.showableAll, PyData.depth, PyData.depthAll, PyData.leavesShort, PyData.leavesShortAll, PyData.weight, PyData.weightAll, h1, h2, Bool.and_true] <;> omega
theorem Th.shows {K : PySem.W.Frag} {c : Addr} {ex : List Addr} {H : Hp} {x : V} (h : Th c ex H x) : (∃ d, Rpr K H x d ∧ Shown d) ∨ ∃ a, x = .ref a ∧ WebAt c H a [] [] := by
  cases h with
  | sc h =>
    obtain ⟨d, h1, h2⟩ := elA_d (H := H) h
    exact .inl ⟨d, .inr (.inl h1), h2.shown⟩
  | str h =>
    rcases h with rfl | rfl
    · exact .inl ⟨_, .inr (.inl (.str _)), (⟨by decide +kernel, by decide +kernel, by decide +kernel, by decide +kernel⟩ : Small _).shown⟩
    · exact .inl ⟨_, .inr (.inl (.str _)), (⟨by decide +kernel, by decide +kernel, by decide +kernel, by decide +kernel⟩ : Small _).shown⟩
  | tupA h l e =>
    obtain ⟨ds, h1, h2, h3⟩ := elA_all (H := H) e
    exact .inl ⟨.tuple ds, .inr (.inr ⟨_, _, ds, rfl, h1, .inl ⟨h, rfl⟩⟩), (Small.list (by omega) h3).2⟩
  | tupB h l e =>
    obtain ⟨ds, h1, h2, h3⟩ := elB_all (K := K) e
    exact .inl ⟨.tuple ds, .inl (.tup (SqT.of h) h1), (Small.list (by omega) h3).2⟩
  | lstB h n l e =>
    obtain ⟨ds, h1, h2, h3⟩ := elB_all (K := K) e
    exact .inl ⟨.list ds, .inl (.lst (SqL.of h) h1), (Small.list (by omega) h3).1⟩
  | nestT h t l e => exact .inl ⟨_, .inl (.tup (SqT.of h) (.cons (.tup (SqT.of t) (dpInts _)) .nil)), (nest_shown l e).1⟩
  | nestL h n t l e => exact .inl ⟨_, .inl (.lst (SqL.of h) (.cons (.tup (SqT.of t) (dpInts _)) .nil)), (nest_shown l e).2⟩
  | dct h => exact .inl ⟨_, .inr (.inl (.dct (kvs := [(0, 0)]) h)), (⟨by decide +kernel, by decide +kernel, by decide +kernel, by decide +kernel⟩ : Small _).shown⟩
  | web h => exact .inr ⟨_, rfl, h⟩
theorem ElA.kd {H : Hp} {y : V} (h : ElA y) : ∃ k, kdOf H y = some k := by
  rcases h with rfl | ⟨b, rfl⟩ | ⟨i, rfl, _⟩
  · exact ⟨_, rfl⟩
  · exact ⟨_, rfl⟩
  · exact ⟨_, rfl⟩
theorem ElA.noref {y : V} (h : ElA y) : ∀ a, y ≠ .ref a := by
  rcases h with rfl | ⟨b, rfl⟩ | ⟨i, rfl, _⟩ <;> intro a z <;> cases z
theorem ElB.kd {H : Hp} {y : V} (h : ElB H y) : ∃ k, kdOf H y = some k := by
  rcases h with ⟨i, rfl, _⟩ | ⟨b, rfl, t⟩
  · exact ⟨_, rfl⟩
  · exact ⟨_, kdOf_tup t⟩
theorem kds_one' {H : Hp} {b : Addr} {ns : List Int} (t : TI H b ns) : Kds H [.ref b] := fun y hy => by
  rw [List.mem_singleton.mp hy]; exact ⟨_, kdOf_tup t⟩
theorem Th.kw {c : Addr} {ex : List Addr} {H : Hp} {x : V} (h : Th c ex H x) : KW c H x := by
  cases h with
  | sc h => exact .inl (kind_sc h.kd h.noref)
  | str h => exact .inl (kind_sc ⟨_, rfl⟩ fun a z => nomatch z)
  | tupA h l e => exact .inl (kind_tup h (by omega) fun y hy => (e y hy).kd)
  | tupB h l e => exact .inl (kind_tup h (by omega) fun y hy => (e y hy).kd)
  | lstB h n l e => exact .inl (kind_lst h (by omega) fun y hy => (e y hy).kd)
  | nestT h t l e => exact .inl (kind_tup h (by simp) (kds_one' t))
  | nestL h n t l e => exact .inl (kind_lst h (by simp) (kds_one' t))
  | @dct a h =>
    refine .inl ⟨⟨_, kdOf_dK h⟩, fun b ys e hq => ?_, fun b o u e z => ?_⟩
    · cases e
      rcases hq with z | z <;> rw [h] at z <;> cases z
    · cases e; rw [h] at z; cases z
  | @web a h =>
    obtain ⟨dx, p1, p2, p3, ts, hw, _⟩ := h
    exact .inr ⟨a, dx, _, rfl, hw⟩
theorem small_in {m : Nat} (m12 : m ≤ 12) {ns : List Int} (h : ∀ x ∈ ns, 0 ≤ x ∧ x < (m : Int)) : ∀ n ∈ ns, n.natAbs.log2 < 64 := fun n hn => by
  obtain ⟨h0, h1⟩ := h n hn
  exact Nat.lt_of_le_of_lt (Nat.log2_le_self _) (by omega)
theorem log12 {i : Int} (h0 : -1 ≤ i) (h1 : i ≤ 13) : i.natAbs.log2 < 64 := Nat.lt_of_le_of_lt (Nat.log2_le_self _) (by omega)
theorem th_ti {c : Addr} {ex : List Addr} {H : Hp} {q : Addr} {ns : List Int} (h : TI H q ns) (l : ns.length ≤ 30) (hs : ∀ n ∈ ns, n.natAbs.log2 < 64) : Th c ex H (.ref q) := .tupA h (by rw [List.length_map]; exact l) fun y hy => by
  obtain ⟨i, hi, rfl⟩ := List.mem_map.mp hy
  exact .inr (.inr ⟨i, rfl, hs i hi⟩)
theorem odd_end {c : Addr} {ex : List Addr} {G G4 : Hp} {l p : Addr} {xs ys : List V} (th : ∀ x ∈ xs, Th c ex G x) (s4 : Same G G4) (thy : ∀ y ∈ ys, Th c ex G4 y) (hl : G4 l = none) (hp : upd G4 l (.lst ys) p = none) :
    ∃ G', upd (upd G4 l (.lst ys)) p (.lst (xs ++ ys)) = G' ∧ Same G4 G' ∧ G' p = some (.lst (xs ++ ys)) ∧ ∀ x ∈ xs ++ ys, Th c ex G' x := by
  have s5 := (Same.new (o := .lst ys) hl).step (o := .lst (xs ++ ys)) hp
  refine ⟨_, rfl, s5, upd_same, fun x hx => ?_⟩
  rcases List.mem_append.mp hx with z | z
  · exact (th x z).same (s4.trans s5)
  · exact (thy x z).same s5
theorem elA_i {i : Int} (h0 : -1 ≤ i) (h1 : i ≤ 13) : ElA (.int i) := .inr (.inr ⟨i, rfl, log12 h0 h1⟩)
theorem three_A {c : Addr} {ex : List Addr} {H : Hp} {r : Addr} {m : Nat} {m1 m2 : List Int} {x : V} (m12 : m ≤ 12) (h : H r = some (.tup (m1.map V.int ++ [x] ++ m2.map V.int))) (l1 : m1.length ≤ 12) (l2 : m2.length ≤ 12) (b1 : ∀ n ∈ m1, 0 ≤ n ∧ n < (m : Int)) (b2 : ∀ n ∈ m2, 0 ≤ n ∧ n < (m : Int)) (hx : ElA x) : Th c ex H (.ref r) := by
  refine .tupA h (by simp only [List.length_append, List.length_map, List.length_cons, List.length_nil]; omega) fun y hy => ?_
  rcases List.mem_append.mp hy with hy | hy
  · rcases List.mem_append.mp hy with hy | hy
    · obtain ⟨i, hi, rfl⟩ := List.mem_map.mp hy
      obtain ⟨u, v⟩ := b1 i hi
      exact elA_i (by omega) (by omega)
    · rw [List.mem_singleton.mp hy]; exact hx
  · obtain ⟨i, hi, rfl⟩ := List.mem_map.mp hy
    obtain ⟨u, v⟩ := b2 i hi
    exact elA_i (by omega) (by omega)
theorem three_B {c : Addr} {ex : List Addr} {H : Hp} {r b : Addr} {m : Nat} {m1 m2 : List Int} (m12 : m ≤ 12) (h : H r = some (.tup (m1.map V.int ++ [.ref b] ++ m2.map V.int))) (l1 : m1.length ≤ 12) (l2 : m2.length ≤ 12) (b1 : ∀ n ∈ m1, 0 ≤ n ∧ n < (m : Int)) (b2 : ∀ n ∈ m2, 0 ≤ n ∧ n < (m : Int)) (hb : TI H b [0]) : Th c ex H (.ref r) := by
  refine .tupB h (by simp only [List.length_append, List.length_map, List.length_cons, List.length_nil]; omega) fun y hy => ?_
  rcases List.mem_append.mp hy with hy | hy
  · rcases List.mem_append.mp hy with hy | hy
    · obtain ⟨i, hi, rfl⟩ := List.mem_map.mp hy
      obtain ⟨u, v⟩ := b1 i hi
      exact .inl ⟨i, rfl, log12 (by omega) (by omega)⟩
    · rw [List.mem_singleton.mp hy]; exact .inr ⟨b, rfl, hb⟩
  · obtain ⟨i, hi, rfl⟩ := List.mem_map.mp hy
    obtain ⟨u, v⟩ := b2 i hi
    exact .inl ⟨i, rfl, log12 (by omega) (by omega)⟩
theorem map_A {c : Addr} {ex : List Addr} {H : Hp} {r : Addr} {xs : List V} (h : H r = some (.tup xs)) (l : xs.length ≤ 12) (e : ∀ y ∈ xs, ElA y) : Th c ex H (.ref r) := .tupA h (by omega) e
def sp_fexchanged (K : PySem.W.Frag) : Sp := fun vs H Q _ => ∃ (s a q : Addr) (ns φ : List Int) (n m : Nat), vs = [.ref s, .ref q] ∧ SAt K H s a ns n ∧ n + 900 < 2 ^ 40 ∧ TI H q φ ∧ Nm.IsN m φ ∧ m ≤ 12 ∧
  ∀ (t : Addr) (xs : List Int) (H' : Hp), TI H' t xs → xs.length ≤ 12 → (∀ x ∈ xs, x ∈ φ) → SAt K H' s a ns (n + 1) → Keep [s] H H' → Q (.ref t) H'
def sp_foddnam (K : PySem.W.Frag) (c : Addr) : Sp := fun vs H Q _ => ∃ (s a q : Addr) (ex : List Addr) (ns φ : List Int) (n m : Nat), vs = [.ref s, .ref q] ∧ s ∈ ex ∧ LX H ex ∧ SAt K H s a ns n ∧ n + 900 < 2 ^ 40 ∧ TI H q φ ∧ Nm.IsN m φ ∧ m ≤ 12 ∧
  ∀ (x : V) (H' : Hp), Th c ex H' x → SAt K H' s a ns (n + 2) → Keep [s] H H' → Q x H'
section
variable {P : Program} {w : World} {K : PySem.W.Frag} {mg : Str → Option Value} {base : Heap} {c : Addr}
theorem sc_fexchanged : FnScope ["_law_state", "_law_naming", "_law_found", "_law_at"] ["_law_state", "_law_naming"] (defScope s_fexchanged) := ⟨rfl, rfl, rfl, by decide +kernel, rfl, by decide +kernel, by decide +kernel⟩
set_option maxHeartbeats 2000000 in
theorem ok_fexchanged {f : Addr} {fd : FuncData} (F : Fun K "_law_exchanged" "_law_exchanged" s_fexchanged f fd) (T : Txt mg) (F_ftake : Fn P w K mg base "_law_take" 1 ["_law_state", "_law_below"] (sp_ftake K)) : FnOk P w K mg base CX0 2 f fd ["_law_state", "_law_naming"] (sp_fexchanged K) := by
  refine F.ok sc_fexchanged (fun vs H Q E h => ?_) (fun cdv A outer st H vs Q E hr h => ?_)
  · obtain ⟨s, a, q, ns, φ, n, m, rfl, _⟩ := h
    rfl
  · have nd := sc_fexchanged.nd
    obtain ⟨s, a, q, ns, φ, n, m, rfl, S, hn, hq, iN, m12, fin⟩ := h
    refine ⟨_, (pss_cons (ps_if (pt_cmpR op_lt (pe_callB (call_lenK (K := K)) (by rfl) T.len (by decide +kernel) (pa_cons (pv 1) pa_nil)) pe_int (nomark _))
      (pss_one (ps_ret (pv 1)))
      pss_nil)
      (pss_cons (ps_set (i := 2) nd rfl (Or.inl rfl) (pe_callTy (call_listK (K := K)) (by rfl) T.list (by decide +kernel) (pa_cons (pv 1) pa_nil)))
      (pss_cons (ps_set (i := 3) nd rfl (Or.inl rfl) (pe_fn F_ftake hr (pa_cons (pv 0) (pa_cons (pe_op op_sub (pe_callB (call_lenK (K := K)) (by rfl) T.len (by decide +kernel) (pa_cons (pv 2) pa_nil)) pe_int) pa_nil))))
      (pss_cons (ps_asg (pe_tup (pa_cons (pe_ix (ix_listK (K := K)) (pv 2) (pe_op op_add (pv 3) pe_int) (fun _ _ => rfl)) (pa_cons (pe_ix (ix_listK (K := K)) (pv 2) (pv 3) (fun _ _ => rfl)) pa_nil))) (pg_tupK (K := K) rfl (pgs_cons (pg_sub (pv 2) (pv 3) set_list) (pgs_cons (pg_sub (pv 2) (pe_op op_add (pv 3) pe_int) set_list) pgs_nil))))
      (pss_one (ps_ret (pe_callTy (call_tupleK (K := K)) (by rfl) T.tuple (by decide +kernel) (pa_cons (pv 2) pa_nil)))))))), ?_⟩
    have lφ := iN.length
    refine ⟨_, rfl, q, _, rfl, .inr (SqT.of hq), _, _, rfl, rfl, _, rfl, ?_⟩
    rw [List.length_map]
    by_cases hm : φ.length < 2
    · rw [decide_eq_true (show (φ.length : Int) < 2 by omega)]
      exact iteT ⟨_, rfl, fin q φ H hq (by omega) (fun x h => h) (S.more (by omega)) (Keep.refl _ _)⟩
    · rw [decide_eq_false (show ¬ (φ.length : Int) < 2 by omega)]
      refine iteF ⟨_, rfl, q, _, rfl, .inr (SqT.of hq), fun l hl => ?_⟩
      have s1 := Same.new (o := .lst (φ.map V.int)) hl
      have hl1 := upd_same (H := H) (a := l) (o := .lst (φ.map V.int))
      have ls := S.ne hl
      have S1 := S.same s1
      generalize upd H l (.lst (φ.map V.int)) = H1 at s1 hl1 S1 ⊢
      refine ⟨_, rfl, _, rfl, l, _, rfl, .inl (SqL.of hl1), _, _, rfl, rfl, ?_⟩
      rw [List.length_map]
      refine ⟨s, a, ns, _, _, rfl, S1, by omega, by omega, by omega, fun at' H2 a0 a1 S2 k2 => ?_⟩
      have hl2 := k2 _ _ hl1 (by simp [ls])
      have g1 : (φ.map V.int)[(at' + 1).toNat]? = some (.int (φ[(at' + 1).toNat]'(by omega))) := by rw [List.getElem?_map, List.getElem?_eq_getElem (by omega)]; rfl
      have g2 : (φ.map V.int)[at'.toNat]? = some (.int (φ[at'.toNat]'(by omega))) := by rw [List.getElem?_map, List.getElem?_eq_getElem (by omega)]; rfl
      refine ⟨_, rfl, _, rfl, _, _, rfl, rfl, l, _, _, _, rfl, rfl, SqL.of hl2, at_of (j := (at' + 1).toNat) (by omega) g1, _, rfl, _, rfl, l, _, _, _, rfl, rfl, SqL.of hl2, at_of (j := at'.toNat) (by omega) g2, (by show 2 ≤ sizeLine; decide), fun t ht => ?_⟩
      have s3 := Same.new (o := .tup [.int (φ[(at' + 1).toNat]'(by omega)), .int (φ[at'.toNat]'(by omega))]) ht
      have hl3 := s3 _ _ hl2
      have ht3 := upd_same (H := H2) (a := t) (o := .tup [V.int (φ[(at' + 1).toNat]'(by omega)), V.int (φ[at'.toNat]'(by omega))])
      have S3 := S2.same s3
      generalize upd H2 t (.tup [.int (φ[(at' + 1).toNat]'(by omega)), .int (φ[at'.toNat]'(by omega))]) = H3 at s3 hl3 ht3 S3 ⊢
      refine ⟨t, _, rfl, SqT.of ht3, rfl, _, _, rfl, ?_⟩
      have i0 : ixN (φ.map V.int).length at' = some at'.toNat := ixN_int a0 (by rw [List.length_map]; omega)
      refine ⟨_, rfl, _, rfl, l, _, _, _, rfl, rfl, hl3, i0, ?_⟩
      have i1 : ixN ((φ.map V.int).set at'.toNat (.int (φ[(at' + 1).toNat]'(by omega)))).length (at' + 1) = some (at' + 1).toNat := ixN_int (by omega) (by rw [List.length_set, List.length_map]; omega)
      refine ⟨_, _, rfl, _, rfl, _, rfl, _, _, rfl, rfl, l, _, _, _, rfl, rfl, upd_same, i1, ?_⟩
      refine ⟨rfl, _, rfl, l, _, rfl, .inl ⟨SqL.of upd_same, fun t2 ht2 => ?_⟩⟩
      have e2 : (((φ.map V.int).set at'.toNat (.int (φ[(at' + 1).toNat]'(by omega)))).set (at' + 1).toNat (.int (φ[at'.toNat]'(by omega)))) = ((φ.set at'.toNat (φ[(at' + 1).toNat]'(by omega))).set (at' + 1).toNat (φ[at'.toNat]'(by omega))).map V.int := by rw [List.map_set, List.map_set]
      rw [e2] at ht2 ⊢
      have S5 := S.setNew (o := .lst (((φ.set at'.toNat (φ[(at' + 1).toNat]'(by omega))).set (at' + 1).toNat (φ[at'.toNat]'(by omega))).map V.int)) hl (S.setNew (o := .lst ((φ.map V.int).set at'.toNat (.int (φ[(at' + 1).toNat]'(by omega))))) hl S3)
      have k5 : Keep [s] H (upd (upd H3 l (.lst ((φ.map V.int).set at'.toNat (.int (φ[(at' + 1).toNat]'(by omega)))))) l (.lst (((φ.set at'.toNat (φ[(at' + 1).toNat]'(by omega))).set (at' + 1).toNat (φ[at'.toNat]'(by omega))).map V.int))) := fun b o e m => by
        have bl : b ≠ l := ne_of_none e hl
        rw [upd_ne bl, upd_ne bl]
        exact s3 _ _ (k2 _ _ (s1 _ _ e) m)
      have inn : ∀ x ∈ ((φ.set at'.toNat (φ[(at' + 1).toNat]'(by omega))).set (at' + 1).toNat (φ[at'.toNat]'(by omega))), x ∈ φ := fun x hx => by
        rcases List.mem_or_eq_of_mem_set hx with z | z
        · rcases List.mem_or_eq_of_mem_set z with z | z
          · exact z
          · rw [z]; exact List.getElem_mem _
        · rw [z]; exact List.getElem_mem _
      generalize upd (upd H3 l (.lst ((φ.map V.int).set at'.toNat (.int (φ[(at' + 1).toNat]'(by omega)))))) l (.lst (((φ.set at'.toNat (φ[(at' + 1).toNat]'(by omega))).set (at' + 1).toNat (φ[at'.toNat]'(by omega))).map V.int)) = H5 at ht2 S5 k5 ⊢
      have s6 := Same.new (o := .tup (((φ.set at'.toNat (φ[(at' + 1).toNat]'(by omega))).set (at' + 1).toNat (φ[at'.toNat]'(by omega))).map V.int)) ht2
      exact fin t2 _ _ upd_same (by rw [List.length_set, List.length_set]; omega) inn (S5.same s6) (k5.trans s6.keep)
theorem sc_foddnam : FnScope ["_law_state", "_law_naming", "_law_many", "_law_at", "_law_odd", "_law_one"] ["_law_state", "_law_naming"] (defScope s_foddnam) := ⟨rfl, rfl, rfl, by decide +kernel, rfl, by decide +kernel, by decide +kernel⟩
set_option maxHeartbeats 0 in
theorem ok_foddnam {f : Addr} {fd : FuncData} (F : Fun K "_law_odd_naming" "_law_odd_naming" s_foddnam f fd) (T : Txt mg) (W : WebC K mg c) (M_Web : MkF P w K mg base "Web" c 6 ["self", "colours", "arrows"] [] (sp_Winit K c)) (F_ftake : Fn P w K mg base "_law_take" 1 ["_law_state", "_law_below"] (sp_ftake K)) : FnOk P w K mg base CX0 8 f fd ["_law_state", "_law_naming"] (sp_foddnam K c) := by
  refine F.ok sc_foddnam (fun vs H Q E h => ?_) (fun cdv A outer st H vs Q E hr h => ?_)
  · obtain ⟨s, a, q, ex, ns, φ, n, m, rfl, _⟩ := h
    rfl
  · have nd := sc_foddnam.nd
    obtain ⟨s, a, q, ex, ns, φ, n, m, rfl, se, lx0, S, hn, hq, iN, m12, fin⟩ := h
    refine ⟨_, (pss_cons (ps_set (i := 2) nd rfl (Or.inl rfl) (pe_callB (call_lenK (K := K)) (by rfl) T.len (by decide +kernel) (pa_cons (pv 1) pa_nil)))
      (pss_consQ (ps_set (i := 3) nd rfl (Or.inl rfl) (pe_fn F_ftake hr (pa_cons (pv 0) (pa_cons (pe_op op_add (pv 2) pe_int) pa_nil))))
      (qss_consR (qs_set (i := 4) nd rfl (Or.inl rfl) (qe_lst (qa_cons (pe_callTy (call_listK (K := K)) (by rfl) T.list (by decide +kernel) (pa_cons (pv 1) pa_nil)) (qa_cons (pe_op (op_catS (K := K)) (pv 1) (pe_tupQ (qa_cons (pv 2) qa_nil))) (qa_cons (pe_slice (sl_tupS (K := K)) (pv 1) po_none (po_some (pe_un un_neg pe_int))) (qa_cons (pe_op (op_catS (K := K)) (pv 1) (pe_tupQ (qa_cons pe_int qa_nil))) (qa_cons pe_non (qa_cons pe_bl (qa_cons (pv 2) (qa_cons pe_str (qa_cons pe_str (qa_consQ (qe_tup (qa_cons (pv 1) qa_nil)) (qa_consQ (qe_lst (qa_cons (pv 1) qa_nil)) qa_nil)))))))))))))
      (pss_cons (ps_set (i := 4) nd rfl (Or.inl rfl) (pe_op op_cat (pv 4) (pe_lstQ (qa_consQ (qe_disp (pps_cons pe_int pe_int pps_nil) rfl rfl (fun z => nomatch z) (by decide)) (qa_cons (pe_callTy (call_tupleK (K := K)) (by rfl) T.tuple (by decide +kernel) (pa_cons (pe_lc (own := [("_law_one", 5)]) (g := gName 5) (by rfl) nd (pi_tupK (K := K) (pv 1)) (blkOk_by (own := [("_law_one", 5)]) (N := ["_law_state", "_law_naming", "_law_many", "_law_at", "_law_odd", "_law_one"]) (sc := defScope s_foddnam) (by decide +kernel)) (fun _ _ _ _ _ => (pg_name (i := 5) nd rfl (Or.inl rfl))) (fun _ _ _ _ _ => pts_nil) (fun _ _ _ _ _ => (pe_cmpR op_eq (pv 5) pe_int (nomark _)))) pa_nil)) (qa_cons (pe_op (op_catS (K := K)) (pe_op (op_catS (K := K)) (pe_slice (sl_tupS (K := K)) (pv 1) po_none (po_some (pv 3))) (pe_tupQ (qa_cons (pe_un un_neg pe_int) qa_nil))) (pe_slice (sl_tupS (K := K)) (pv 1) (po_some (pe_op op_add (pv 3) pe_int)) po_none)) (qa_cons (pe_mk M_Web hr (pa_cons (pe_tupQ qa_nil) (pa_cons (pe_tupQ qa_nil) pa_nil))) qa_nil)))))))
      (pss_cons (ps_set (i := 4) nd rfl (Or.inl rfl) (pe_op op_cat (pv 4) (pe_lstQ (qa_cons (pe_op (op_catS (K := K)) (pe_op (op_catS (K := K)) (pe_slice (sl_tupS (K := K)) (pv 1) po_none (po_some (pv 3))) (pe_tupQ (qa_cons (pv 2) qa_nil))) (pe_slice (sl_tupS (K := K)) (pv 1) (po_some (pe_op op_add (pv 3) pe_int)) po_none)) (qa_cons (pe_op (op_catS (K := K)) (pe_op (op_catS (K := K)) (pe_slice (sl_tupS (K := K)) (pv 1) po_none (po_some (pv 3))) (pe_tupQ (qa_cons pe_non qa_nil))) (pe_slice (sl_tupS (K := K)) (pv 1) (po_some (pe_op op_add (pv 3) pe_int)) po_none)) (qa_consQ (qe_tup qa_nil) qa_nil))))))
      (pss_cons (ps_set (i := 4) nd rfl (Or.inl rfl) (pe_op op_cat (pv 4) (pe_lstQ (qa_cons (pe_op (op_catS (K := K)) (pe_op (op_catS (K := K)) (pe_slice (sl_tupS (K := K)) (pv 1) po_none (po_some (pv 3))) (pe_tupQ (qa_consQ (qe_tup (qa_cons pe_int qa_nil)) qa_nil))) (pe_slice (sl_tupS (K := K)) (pv 1) (po_some (pe_op op_add (pv 3) pe_int)) po_none)) (qa_cons (pe_callTy (call_tupleK (K := K)) (by rfl) T.tuple (by decide +kernel) (pa_cons (pe_lc (own := [("_law_one", 5)]) (g := gName 5) (by rfl) nd (pi_tupK (K := K) (pv 1)) (blkOk_by (own := [("_law_one", 5)]) (N := ["_law_state", "_law_naming", "_law_many", "_law_at", "_law_odd", "_law_one"]) (sc := defScope s_foddnam) (by decide +kernel)) (fun _ _ _ _ _ => (pg_name (i := 5) nd rfl (Or.inl rfl))) (fun _ _ _ _ _ => pts_nil) (fun _ _ _ _ _ => (pe_callTy call_int1 (by rfl) T.int (by decide +kernel) (pa_cons (pe_cmpR op_gt (pv 5) pe_int (nomark _)) pa_nil)))) pa_nil)) qa_nil)))))
      (pss_cons (ps_set (i := 4) nd rfl (Or.inl rfl) (pe_op op_cat (pv 4) (pe_lstQ (qa_cons (pe_callTy (call_tupleK (K := K)) (by rfl) T.tuple (by decide +kernel) (pa_cons (pe_lc (own := [("_law_one", 5)]) (g := gName 5) (by rfl) nd (pi_tupK (K := K) (pv 1)) (blkOk_by (own := [("_law_one", 5)]) (N := ["_law_state", "_law_naming", "_law_many", "_law_at", "_law_odd", "_law_one"]) (sc := defScope s_foddnam) (by decide +kernel)) (fun _ _ _ _ _ => (pg_name (i := 5) nd rfl (Or.inl rfl))) (fun _ _ _ _ _ => pts_nil) (fun _ _ _ _ _ => (pe_ixQ (ix_listK (K := K)) (qe_lst (qa_cons (pv 5) (qa_cons pe_bl (qa_cons pe_bl qa_nil)))) (pe_op op_add (pe_callTy call_int1 (by rfl) T.int (by decide +kernel) (pa_cons (pe_cmpR op_eq (pv 5) pe_int (nomark _)) pa_nil)) (pe_op op_mul pe_int (pe_callTy call_int1 (by rfl) T.int (by decide +kernel) (pa_cons (pe_cmpR op_eq (pv 5) pe_int (nomark _)) pa_nil)))) (fun _ _ => rfl)))) pa_nil)) qa_nil))))
      (pss_one (ps_ret (pe_ix (ix_listK (K := K)) (pv 4) (pe_fn F_ftake hr (pa_cons (pv 0) (pa_cons pe_int pa_nil))) (fun _ _ => rfl))))))))))), ?_⟩
    have lφ := iN.length
    have one : (1 : Nat) ≤ sizeLine := by decide
    have big : ∀ {a b : Nat}, a ≤ 50 → b ≤ 50 → a + b ≤ sizeLine := fun ha hb => Nat.le_trans (Nat.add_le_add ha hb) (by decide)
    have bφ : ∀ x ∈ φ, 0 ≤ x ∧ x < (m : Int) := fun x hx => iN.mem.mp hx
    refine ⟨_, rfl, q, _, rfl, .inr (SqT.of hq), ?_⟩
    rw [List.length_map]
    refine ⟨_, rfl, _, rfl, _, _, rfl, rfl, s, a, ns, _, _, rfl, S, by omega, by omega, by omega, fun at' H1 a0 a1 S1 k1 => ?_⟩
    have hq1 : TI H1 q φ := Ti.keepS S k1 hq
    obtain ⟨sx, hs1⟩ := S1.at
    have lx1 : LX H1 ex := lx0.keep k1 fun e he => by rw [List.mem_singleton.mp he]; exact ⟨_, hs1⟩
    obtain ⟨m0, c0, l0, i0⟩ := cutI φ none (some (-1))
    obtain ⟨m1, c1, l1, i1⟩ := cutI φ none (some at')
    obtain ⟨m2, c2, l2, i2⟩ := cutI φ (some (at' + 1)) none
    have b0 : ∀ x ∈ m0, 0 ≤ x ∧ x < (m : Int) := fun x hx => bφ x (i0 x hx)
    have b1 : ∀ x ∈ m1, 0 ≤ x ∧ x < (m : Int) := fun x hx => bφ x (i1 x hx)
    have b2 : ∀ x ∈ m2, 0 ≤ x ∧ x < (m : Int) := fun x hx => bφ x (i2 x hx)
    -- the first eleven
    refine ⟨_, rfl, q, _, rfl, .inr (SqT.of hq1), fun o1 ho1 => ?_⟩
    have n1 := lx1.no ho1
    obtain ⟨G1, eG, sA, g1⟩ : ∃ G, upd H1 o1 (.lst (φ.map V.int)) = G ∧ Same H1 G ∧ G o1 = some (.lst (φ.map V.int)) := ⟨_, rfl, Same.new ho1, upd_same⟩
    rw [eG]
    clear eG ho1
    refine ⟨_, rfl, _, rfl, one, fun u hu => ⟨q, u, _, _, rfl, rfl, Same.new hu _ _ (sA _ _ hq1), upd_same, by rw [List.length_map]; exact big (by omega) (by simp), fun o2 G2 s2 e2 => ?_⟩⟩
    have s12 := (Same.new hu).trans s2
    refine ⟨_, rfl, _, rfl, _, rfl, q, _, rfl, s12 _ _ (sA _ _ hq1), fun o3 G3 s3 e3 => ?_⟩
    change G3 o3 = some (.tup (cutV (φ.map V.int) none (some (-1)))) at e3
    rw [c0] at e3
    have s13 := s12.trans s3
    refine ⟨_, rfl, one, fun u4 hu4 => ⟨q, u4, _, _, rfl, rfl, Same.new hu4 _ _ (s13 _ _ (sA _ _ hq1)), upd_same, by rw [List.length_map]; exact big (by omega) (by simp), fun o4 G4 s4 e4 => ?_⟩⟩
    have s24 := (s3.step (o := .tup [.int 0]) hu4).trans s4
    have s34 := (Same.new (o := .tup [.int 0]) hu4).trans s4
    have s14 := (s13.step (o := .tup [.int 0]) hu4).trans s4
    refine ⟨_, rfl, _, rfl, one, fun o10 ho10 => ⟨_, rfl, one, fun o11 ho11 => ⟨(by show 11 ≤ sizeLine; decide), fun L hL => ?_⟩⟩⟩
    have sB := ((Same.new (o := .tup [.ref q]) ho10).step (o := .lst [.ref q]) ho11)
    have n11 := lx1.no (((sA.trans s14).step (o := .tup [.ref q]) ho10).free ho11)
    have nL := (((S1.same (sA.trans s14)).same (Same.new (o := .tup [.ref q]) ho10)).same (Same.new (o := .lst [.ref q]) ho11)).ne hL
    obtain ⟨G, xs, eG, eX, sG, hLG, lxs, th⟩ : ∃ G xs, upd (upd (upd G4 o10 (.tup [.ref q])) o11 (.lst [.ref q])) L (.lst [.ref o1, .ref o2, .ref o3, .ref o4, .non, .bl true, .int (φ.length : Nat), .str "", .str "01", .ref o10, .ref o11]) = G ∧ ([.ref o1, .ref o2, .ref o3, .ref o4, .non, .bl true, .int (φ.length : Nat), .str "", .str "01", .ref o10, .ref o11] : List V) = xs ∧ Same H1 G ∧ G L = some (.lst xs) ∧ xs.length = 11 ∧ ∀ x ∈ xs, Th c ex G x := by
      have sC := sB.step (o := .lst [.ref o1, .ref o2, .ref o3, .ref o4, .non, .bl true, .int (φ.length : Nat), .str "", .str "01", .ref o10, .ref o11]) hL
      have s1C := (sA.trans s14).trans sC
      refine ⟨_, _, rfl, rfl, s1C, upd_same, rfl, fun x hx => ?_⟩
      have f10 : upd (upd (upd G4 o10 (.tup [.ref q])) o11 (.lst [.ref q])) L (.lst [.ref o1, .ref o2, .ref o3, .ref o4, .non, .bl true, .int (φ.length : Nat), .str "", .str "01", .ref o10, .ref o11]) o10 = some (.tup [.ref q]) := Same.new hL _ _ (Same.new ho11 _ _ upd_same)
      have f11 : upd (upd (upd G4 o10 (.tup [.ref q])) o11 (.lst [.ref q])) L (.lst [.ref o1, .ref o2, .ref o3, .ref o4, .non, .bl true, .int (φ.length : Nat), .str "", .str "01", .ref o10, .ref o11]) o11 = some (.lst [.ref q]) := Same.new hL _ _ upd_same
      generalize upd (upd (upd G4 o10 (.tup [.ref q])) o11 (.lst [.ref q])) L (.lst [.ref o1, .ref o2, .ref o3, .ref o4, .non, .bl true, .int (φ.length : Nat), .str "", .str "01", .ref o10, .ref o11]) = GG at sC s1C f10 f11 ⊢
      simp only [List.mem_cons, List.not_mem_nil, or_false] at hx
      rcases hx with rfl | rfl | rfl | rfl | rfl | rfl | rfl | rfl | rfl | rfl | rfl
      · refine .lstB ((s14.trans sC) _ _ g1) n1 (by rw [List.length_map]; omega) fun y hy => ?_
        obtain ⟨i, hi, rfl⟩ := List.mem_map.mp hy
        obtain ⟨u, v⟩ := bφ i hi
        exact .inl ⟨i, rfl, log12 (by omega) (by omega)⟩
      · have e2' : GG o2 = some (.tup (φ.map V.int ++ [.int (φ.length : Nat)] ++ ([] : List Int).map V.int)) := by
          rw [List.map_nil, List.append_nil]; exact (s24.trans sC) _ _ e2
        exact three_A m12 e2' (by omega) (by decide) bφ (fun n hn => nomatch hn) (elA_i (by omega) (by omega))
      · exact th_ti (ns := m0) ((s34.trans sC) _ _ e3) (by omega) (small_in m12 b0)
      · have e4' : GG o4 = some (.tup (φ.map V.int ++ [.int 0] ++ ([] : List Int).map V.int)) := by
          rw [List.map_nil, List.append_nil]; exact sC _ _ e4
        exact three_A m12 e4' (by omega) (by decide) bφ (fun n hn => nomatch hn) (elA_i (by omega) (by omega))
      · exact .sc (.inl rfl)
      · exact .sc (.inr (.inl ⟨_, rfl⟩))
      · exact .sc (elA_i (by omega) (by omega))
      · exact .str (.inl rfl)
      · exact .str (.inr rfl)
      · exact .nestT f10 (s1C _ _ hq1) (by omega) (small_in m12 bφ)
      · exact .nestL f11 n11 (s1C _ _ hq1) (by omega) (small_in m12 bφ)
    rw [eG]
    clear eG eX
    change tSeq _ _ _ [some (.ref s), some (.ref q), some (.int (φ.length : Nat)), some (.int at'), some (.ref L), none] G
    refine ⟨_, rfl, fun d hd => ⟨upd_same, [(Sum.inl 0, V.int 0)], rfl, by decide, ?_⟩⟩
    obtain ⟨Gd, eG, sd, gd⟩ : ∃ G', upd (upd G d (.dK [])) d (.dK (mergeK [] [(Sum.inl 0, V.int 0)])) = G' ∧ Same G G' ∧ G' d = some (.dK [(Sum.inl 0, V.int 0)]) := ⟨_, rfl, fun b o e => by rw [upd_ne (ne_of_none e hd), upd_ne (ne_of_none e hd)]; exact e, upd_same⟩
    rw [eG]
    clear eG hd
    have sGd := sG.trans sd
    refine ⟨_, rfl, q, rfl, ⟨_, SqT.of (sGd _ _ hq1)⟩, fun D hD => lc_tup (K := K) (a := q) (xs := φ.map V.int) (fun j H' => Same Gd H' ∧ H' D = some (.lst ((φ.take j).map (fun b : Int => V.bl (decide (V.int b = V.int 1)))))) ⟨Same.new hD, upd_same⟩ (fun j H' _ h => SqT.of (h.1 _ _ (sGd _ _ hq1))) ?_ ?_⟩
    · rintro j y H7 hy ⟨s7, hD7⟩
      rw [List.getElem?_map] at hy
      obtain ⟨b, hb, rfl⟩ := Option.map_eq_some_iff.mp hy
      have hj := (List.getElem?_eq_some_iff.mp hb).1
      have acc : ∀ {H8 : Hp}, Same H7 H8 → ∃ acc, H8 D = some (.lst acc) ∧ acc.length < sizeLine ∧ Same Gd (upd H8 D (.lst (acc ++ [(fun b : Int => V.bl (decide (V.int b = V.int 1))) b]))) ∧ upd H8 D (.lst (acc ++ [(fun b : Int => V.bl (decide (V.int b = V.int 1))) b])) D = some (.lst ((φ.take (j + 1)).map (fun b : Int => V.bl (decide (V.int b = V.int 1))))) := fun {H8} s8 => ⟨_, s8 _ _ hD7, by rw [List.length_map, List.length_take]; exact small1000 (by omega), same_set2 (s7.trans s8) hD, by rw [upd_same, List.take_succ, hb]; simp⟩
      refine ⟨rfl, _, rfl, rfl, ?_⟩
      obtain ⟨ac, A1, A2, A3, A4⟩ := acc (Same.refl H7)
      exact ⟨ac, A1, A2, A3, A4⟩
    rintro H7 ⟨s7, hD7⟩
    rw [List.length_map, List.take_length] at hD7
    refine ⟨D, _, rfl, .inl ⟨SqL.of hD7, fun tb hu => ?_⟩⟩
    obtain ⟨Gb, eG, s8, e8⟩ : ∃ G', upd H7 tb (.tup (φ.map (fun b : Int => V.bl (decide (V.int b = V.int 1))))) = G' ∧ Same Gd G' ∧ G' tb = some (.tup (φ.map (fun b : Int => V.bl (decide (V.int b = V.int 1))))) := ⟨_, rfl, s7.step hu, upd_same⟩
    rw [eG]
    clear eG hu hD7 s7
    have sGb := sGd.trans s8
    refine ⟨_, rfl, _, rfl, _, rfl, q, _, rfl, (sGb _ _ hq1), fun r1 G1 s1 e1 => ?_⟩
    rw [c1] at e1
    refine ⟨_, rfl, one, fun t ht => ⟨r1, t, _, _, rfl, rfl, Same.new ht _ _ e1, upd_same, by rw [List.length_map]; exact big (by omega) (by simp), fun r2 G2 s2 e2 => ?_⟩⟩
    have s12 := (s1.step ht).trans s2
    refine ⟨_, rfl, _, rfl, _, _, rfl, rfl, _, rfl, q, _, rfl, s12 _ _ (sGb _ _ hq1), fun r3 G3 s3 e3 => ?_⟩
    rw [c2] at e3
    refine ⟨r2, r3, _, _, rfl, rfl, s3 _ _ e2, e3, by rw [List.length_append, List.length_map, List.length_map]; exact big (by simp; omega) (by omega), fun r4 Gt s4 e4 => ?_⟩
    have s14 := (s12.trans s3).trans s4
    clear e2 e3 s2 s3 s4 e1 s1 s12
    have sGt := sGb.trans s14
    have tht : Th c ex Gt (.ref r4) := three_A m12 e4 (by omega) (by omega) b1 b2 (elA_i (i := -1) (by omega) (by omega))
    refine ⟨Nat.zero_le _, fun pc hpc => ⟨Nat.zero_le _, fun pa hpa => ?_⟩⟩
    have spc := (Same.new (o := .tup []) hpc).step (o := .tup []) hpa
    have hpc2 := Same.new (o := .tup []) hpa _ _ (upd_same (H := Gt) (a := pc) (o := .tup []))
    have hpa2 := upd_same (H := upd Gt pc (.tup [])) (a := pa) (o := .tup [])
    generalize upd (upd Gt pc (.tup [])) pa (.tup []) = Gp at spc hpc2 hpa2 ⊢
    intro x dx hx hdx hne
    have sN := sameNew2 (c := c) hx hdx
    refine ⟨x, dx, pc, pa, [], [], [], rfl, upd_same, .inr (sN _ _ hpc2), ⟨.inr (SqT.of (sN _ _ hpa2)), .nil⟩, ⟨by decide, (fun x hx => nomatch hx), (fun r hr => nomatch hr), List.nodup_nil⟩, fun E' Gw pE' sE' k wb => ⟨rfl, ?_⟩⟩
    have eE : E' = [] := List.perm_nil.mp pE'
    subst eE
    have sw := spc.trans (sameMade hx hdx k)
    have stw := s14.trans sw
    have sbw := s8.trans stw
    have sdw := sd.trans sbw
    have thyLB : ∀ y ∈ ([.ref d, .ref tb, .ref r4, .ref x] : List V), Th c ex Gw y := fun y hy => by
      simp only [List.mem_cons, List.not_mem_nil, or_false] at hy
      rcases hy with rfl | rfl | rfl | rfl
      · exact .dct (sbw _ _ gd)
      · exact map_A (stw _ _ e8) (by rw [List.length_map]; omega) fun y hy => by
          obtain ⟨b, _, rfl⟩ := List.mem_map.mp hy
          exact .inr (.inl ⟨_, rfl⟩)
      · exact tht.same sw
      · exact .web wb
    refine ⟨(by show 4 ≤ sizeLine; decide), fun l hl => ⟨L, l, _, _, rfl, rfl, Same.new hl _ _ (sdw _ _ hLG), upd_same, by rw [lxs]; exact big (by decide) (by simp), fun LB hp => ?_⟩⟩
    have nLB : LB ≠ s := ne_of_none (((sG.trans sdw).step (o := .lst [.ref d, .ref tb, .ref r4, .ref x]) hl) _ _ hs1) hp |>.symm
    obtain ⟨GB, eG, s5, hLB, thLB⟩ := odd_end (th := th) sdw thyLB hl hp
    rw [eG]
    have sGB := sG.trans (sdw.trans s5)
    clear eG hl hp
    have hxLB : ∃ ys, ys = xs ++ ([.ref d, .ref tb, .ref r4, .ref x] : List V) := ⟨_, rfl⟩
    obtain ⟨xsLB, exLB⟩ := hxLB
    rw [← exLB] at hLB thLB
    have lxsLB : xsLB.length = xs.length + 4 := by rw [exLB, List.length_append]; rfl
    rw [lxs] at lxsLB
    clear exLB
    change tSeq _ _ _ [some (.ref s), some (.ref q), some (.int (φ.length : Nat)), some (.int at'), some (.ref LB), none] GB
    refine ⟨_, rfl, _, rfl, _, rfl, _, rfl, q, _, rfl, (sGB _ _ hq1), fun r1 G1 s1 e1 => ?_⟩
    rw [c1] at e1
    refine ⟨_, rfl, one, fun t ht => ⟨r1, t, _, _, rfl, rfl, Same.new ht _ _ e1, upd_same, by rw [List.length_map]; exact big (by omega) (by simp), fun r2 G2 s2 e2 => ?_⟩⟩
    have s12 := (s1.step ht).trans s2
    refine ⟨_, rfl, _, rfl, _, _, rfl, rfl, _, rfl, q, _, rfl, s12 _ _ (sGB _ _ hq1), fun r3 G3 s3 e3 => ?_⟩
    rw [c2] at e3
    refine ⟨r2, r3, _, _, rfl, rfl, s3 _ _ e2, e3, by rw [List.length_append, List.length_map, List.length_map]; exact big (by simp; omega) (by omega), fun r4 Gu s4 e4 => ?_⟩
    have s14 := (s12.trans s3).trans s4
    clear e2 e3 s2 s3 s4 e1 s1 s12
    have su := s14
    have thu : Th c ex Gu (.ref r4) := three_A m12 e4 (by omega) (by omega) b1 b2 (elA_i (i := (φ.length : Nat)) (by omega) (by omega))
    clear e4 s14
    refine ⟨_, rfl, _, rfl, _, rfl, q, _, rfl, ((sGB.trans su) _ _ hq1), fun v1 G1 s1 e1 => ?_⟩
    rw [c1] at e1
    refine ⟨one, fun t ht => ⟨v1, t, _, _, rfl, rfl, Same.new ht _ _ e1, upd_same, by rw [List.length_map]; exact big (by omega) (by simp), fun v2 G2 s2 e2 => ?_⟩⟩
    have s12 := (s1.step ht).trans s2
    refine ⟨_, rfl, _, rfl, _, _, rfl, rfl, _, rfl, q, _, rfl, s12 _ _ ((sGB.trans su) _ _ hq1), fun v3 G3 s3 e3 => ?_⟩
    rw [c2] at e3
    refine ⟨v2, v3, _, _, rfl, rfl, s3 _ _ e2, e3, by rw [List.length_append, List.length_map, List.length_map]; exact big (by simp; omega) (by omega), fun v4 Gv s4 e4 => ?_⟩
    have s14 := (s12.trans s3).trans s4
    clear e2 e3 s2 s3 s4 e1 s1 s12
    have sv := s14
    have thv : Th c ex Gv (.ref v4) := three_A m12 e4 (by omega) (by omega) b1 b2 (.inl rfl)
    clear e4 s14
    refine ⟨Nat.zero_le _, fun pe hpe => ?_⟩
    have spe := Same.new (o := .tup []) hpe
    have hpe2 := upd_same (H := Gv) (a := pe) (o := .tup [])
    generalize upd Gv pe (.tup []) = Gp2 at spe hpe2 ⊢
    have svp := sv.trans spe
    have sup := su.trans svp
    have thyLC : ∀ y ∈ ([.ref r4, .ref v4, .ref pe] : List V), Th c ex Gp2 y := fun y hy => by
      simp only [List.mem_cons, List.not_mem_nil, or_false] at hy
      rcases hy with rfl | rfl | rfl
      · exact thu.same svp
      · exact thv.same spe
      · exact th_ti (ns := []) hpe2 (by decide) (fun n hn => nomatch hn)
    refine ⟨(by show 3 ≤ sizeLine; decide), fun l hl => ⟨LB, l, _, _, rfl, rfl, Same.new hl _ _ (sup _ _ hLB), upd_same, by rw [lxsLB]; exact big (by decide) (by simp), fun LC hp => ?_⟩⟩
    have nLC : LC ≠ s := ne_of_none (((sGB.trans sup).step (o := .lst [.ref r4, .ref v4, .ref pe]) hl) _ _ hs1) hp |>.symm
    obtain ⟨GC, eG, s5, hLC, thLC⟩ := odd_end (th := thLB) sup thyLC hl hp
    rw [eG]
    have sGC := sGB.trans (sup.trans s5)
    clear eG hl hp
    have hxLC : ∃ ys, ys = xsLB ++ ([.ref r4, .ref v4, .ref pe] : List V) := ⟨_, rfl⟩
    obtain ⟨xsLC, exLC⟩ := hxLC
    rw [← exLC] at hLC thLC
    have lxsLC : xsLC.length = xsLB.length + 3 := by rw [exLC, List.length_append]; rfl
    rw [lxsLB] at lxsLC
    clear exLC
    change tSeq _ _ _ [some (.ref s), some (.ref q), some (.int (φ.length : Nat)), some (.int at'), some (.ref LC), none] GC
    refine ⟨_, rfl, _, rfl, _, rfl, _, rfl, q, _, rfl, (sGC _ _ hq1), fun x1 G1 s1 e1 => ?_⟩
    rw [c1] at e1
    refine ⟨one, fun t0 ht0 => ⟨one, fun t ht => ⟨x1, t, _, _, rfl, rfl, Same.new ht _ _ (Same.new ht0 _ _ e1), upd_same, by rw [List.length_map]; exact big (by omega) (by simp), fun x2 G2 s2 e2 => ?_⟩⟩⟩
    have t02 : TI G2 t0 [0] := s2 _ _ (Same.new ht _ _ upd_same)
    have s12 := ((s1.step (o := .tup [.int 0]) ht0).step (o := .tup [.ref t0]) ht).trans s2
    refine ⟨_, rfl, _, rfl, _, _, rfl, rfl, _, rfl, q, _, rfl, s12 _ _ (sGC _ _ hq1), fun x3 G3 s3 e3 => ?_⟩
    rw [c2] at e3
    refine ⟨x2, x3, _, _, rfl, rfl, s3 _ _ e2, e3, by rw [List.length_append, List.length_map, List.length_map]; exact big (by simp; omega) (by omega), fun x4 Gx s4 e4 => ?_⟩
    have t0x : TI Gx t0 [0] := s4 _ _ (s3 _ _ t02)
    have s14 := (s12.trans s3).trans s4
    clear e2 e3 s2 s3 s4 e1 s1 s12
    have sx6 := s14
    have thx : Th c ex Gx (.ref x4) := three_B m12 e4 (by omega) (by omega) b1 b2 t0x
    clear e4 s14
    refine ⟨_, rfl, q, rfl, ⟨_, SqT.of ((sGC.trans sx6) _ _ hq1)⟩, fun D hD => lc_tup (K := K) (a := q) (xs := φ.map V.int) (fun j H' => Same Gx H' ∧ H' D = some (.lst ((φ.take j).map (fun b : Int => V.int (if decide (b > 1) = true then 1 else 0))))) ⟨Same.new hD, upd_same⟩ (fun j H' _ h => SqT.of (h.1 _ _ ((sGC.trans sx6) _ _ hq1))) ?_ ?_⟩
    · rintro j y H7 hy ⟨s7, hD7⟩
      rw [List.getElem?_map] at hy
      obtain ⟨b, hb, rfl⟩ := Option.map_eq_some_iff.mp hy
      have hj := (List.getElem?_eq_some_iff.mp hb).1
      have acc : ∀ {H8 : Hp}, Same H7 H8 → ∃ acc, H8 D = some (.lst acc) ∧ acc.length < sizeLine ∧ Same Gx (upd H8 D (.lst (acc ++ [(fun b : Int => V.int (if decide (b > 1) = true then 1 else 0)) b]))) ∧ upd H8 D (.lst (acc ++ [(fun b : Int => V.int (if decide (b > 1) = true then 1 else 0)) b])) D = some (.lst ((φ.take (j + 1)).map (fun b : Int => V.int (if decide (b > 1) = true then 1 else 0)))) := fun {H8} s8 => ⟨_, s8 _ _ hD7, by rw [List.length_map, List.length_take]; exact small1000 (by omega), same_set2 (s7.trans s8) hD, by rw [upd_same, List.take_succ, hb]; simp⟩
      refine ⟨rfl, _, rfl, _, _, rfl, rfl, .inr ⟨_, rfl, ?_⟩⟩
      obtain ⟨ac, A1, A2, A3, A4⟩ := acc (Same.refl H7)
      exact ⟨ac, A1, A2, A3, A4⟩
    rintro H7 ⟨s7, hD7⟩
    rw [List.length_map, List.take_length] at hD7
    refine ⟨D, _, rfl, .inl ⟨SqL.of hD7, fun tg hu => ?_⟩⟩
    obtain ⟨Gg, eG, s8, e8⟩ : ∃ G', upd H7 tg (.tup (φ.map (fun b : Int => V.int (if decide (b > 1) = true then 1 else 0)))) = G' ∧ Same Gx G' ∧ G' tg = some (.tup (φ.map (fun b : Int => V.int (if decide (b > 1) = true then 1 else 0)))) := ⟨_, rfl, s7.step hu, upd_same⟩
    rw [eG]
    clear eG hu hD7 s7
    have s68 := sx6.trans s8
    have thyLD : ∀ y ∈ ([.ref x4, .ref tg] : List V), Th c ex Gg y := fun y hy => by
      simp only [List.mem_cons, List.not_mem_nil, or_false] at hy
      rcases hy with rfl | rfl
      · exact thx.same s8
      · exact map_A e8 (by rw [List.length_map]; omega) fun y hy => by
          obtain ⟨b, _, rfl⟩ := List.mem_map.mp hy
          show ElA (.int (if decide (b > 1) = true then 1 else 0))
          split
          · exact elA_i (by omega) (by omega)
          · exact elA_i (by omega) (by omega)
    refine ⟨(by show 2 ≤ sizeLine; decide), fun l hl => ⟨LC, l, _, _, rfl, rfl, Same.new hl _ _ (s68 _ _ hLC), upd_same, by rw [lxsLC]; exact big (by decide) (by simp), fun LD hp => ?_⟩⟩
    have nLD : LD ≠ s := ne_of_none (((sGC.trans s68).step (o := .lst [.ref x4, .ref tg]) hl) _ _ hs1) hp |>.symm
    obtain ⟨GD, eG, s5, hLD, thLD⟩ := odd_end (th := thLC) s68 thyLD hl hp
    rw [eG]
    have sGD := sGC.trans (s68.trans s5)
    clear eG hl hp
    have hxLD : ∃ ys, ys = xsLC ++ ([.ref x4, .ref tg] : List V) := ⟨_, rfl⟩
    obtain ⟨xsLD, exLD⟩ := hxLD
    rw [← exLD] at hLD thLD
    have lxsLD : xsLD.length = xsLC.length + 2 := by rw [exLD, List.length_append]; rfl
    rw [lxsLC] at lxsLD
    clear exLD
    change tSeq _ _ _ [some (.ref s), some (.ref q), some (.int (φ.length : Nat)), some (.int at'), some (.ref LD), none] GD
    refine ⟨_, rfl, _, rfl, q, rfl, ⟨_, SqT.of (sGD _ _ hq1)⟩, fun D hD => lc_tup (K := K) (a := q) (xs := φ.map V.int) (fun j H' => Same GD H' ∧ H' D = some (.lst ((φ.take j).map (fun b : Int => if b = 1 then V.bl true else if b = 0 then V.bl false else V.int b)))) ⟨Same.new hD, upd_same⟩ (fun j H' _ h => SqT.of (h.1 _ _ (sGD _ _ hq1))) ?_ ?_⟩
    · rintro j y H7 hy ⟨s7, hD7⟩
      rw [List.getElem?_map] at hy
      obtain ⟨b, hb, rfl⟩ := Option.map_eq_some_iff.mp hy
      have hj := (List.getElem?_eq_some_iff.mp hb).1
      have acc : ∀ {H8 : Hp}, Same H7 H8 → ∃ acc, H8 D = some (.lst acc) ∧ acc.length < sizeLine ∧ Same GD (upd H8 D (.lst (acc ++ [(fun b : Int => if b = 1 then V.bl true else if b = 0 then V.bl false else V.int b) b]))) ∧ upd H8 D (.lst (acc ++ [(fun b : Int => if b = 1 then V.bl true else if b = 0 then V.bl false else V.int b) b])) D = some (.lst ((φ.take (j + 1)).map (fun b : Int => if b = 1 then V.bl true else if b = 0 then V.bl false else V.int b))) := fun {H8} s8 => ⟨_, s8 _ _ hD7, by rw [List.length_map, List.length_take]; exact small1000 (by omega), same_set2 (s7.trans s8) hD, by rw [upd_same, List.take_succ, hb]; simp⟩
      have b2' := bφ b (List.mem_of_getElem? hb)
      refine ⟨rfl, _, rfl, (by show 3 ≤ sizeLine; decide), fun l hl => ⟨_, rfl, rfl, .inr ⟨_, rfl, _, rfl, rfl, .inr ⟨_, rfl, _, _, rfl, rfl, .inl ⟨by decide, by decide⟩, _, _, rfl, rfl, l, _, _, (if b = 1 then V.bl true else if b = 0 then V.bl false else V.int b), rfl, rfl, SqL.of upd_same, ?_, ?_⟩⟩⟩⟩
      · by_cases e1 : b = 1
        · subst e1; rfl
        · by_cases e0 : b = 0
          · subst e0; rfl
          · rw [if_neg e1, if_neg e0, decide_eq_false (show ¬ V.int b = V.int 1 from fun z => e1 (V.int.inj z)), decide_eq_false (show ¬ V.int b = V.int 0 from fun z => e0 (V.int.inj z))]; rfl
      obtain ⟨ac, A1, A2, A3, A4⟩ := acc (Same.new (o := .lst [.int b, .bl true, .bl false]) hl)
      exact ⟨ac, A1, A2, A3, A4⟩
    rintro H7 ⟨s7, hD7⟩
    rw [List.length_map, List.take_length] at hD7
    refine ⟨D, _, rfl, .inl ⟨SqL.of hD7, fun th7 hu => ?_⟩⟩
    obtain ⟨Gh, eG, s8, e8⟩ : ∃ G', upd H7 th7 (.tup (φ.map (fun b : Int => if b = 1 then V.bl true else if b = 0 then V.bl false else V.int b))) = G' ∧ Same GD G' ∧ G' th7 = some (.tup (φ.map (fun b : Int => if b = 1 then V.bl true else if b = 0 then V.bl false else V.int b))) := ⟨_, rfl, s7.step hu, upd_same⟩
    rw [eG]
    clear eG hu hD7 s7
    have thyLE : ∀ y ∈ ([.ref th7] : List V), Th c ex Gh y := fun y hy => by
      simp only [List.mem_cons, List.not_mem_nil, or_false] at hy
      subst hy
      exact map_A e8 (by rw [List.length_map]; omega) fun y hy => by
        obtain ⟨b, hb, rfl⟩ := List.mem_map.mp hy
        obtain ⟨u, v⟩ := bφ b hb
        show ElA (if b = 1 then V.bl true else if b = 0 then V.bl false else V.int b)
        split
        · exact .inr (.inl ⟨_, rfl⟩)
        · split
          · exact .inr (.inl ⟨_, rfl⟩)
          · exact elA_i (by omega) (by omega)
    refine ⟨(by show 1 ≤ sizeLine; decide), fun l hl => ⟨LD, l, _, _, rfl, rfl, Same.new hl _ _ (s8 _ _ hLD), upd_same, by rw [lxsLD]; exact big (by decide) (by simp), fun LE hp => ?_⟩⟩
    have nLE : LE ≠ s := ne_of_none (((sGD.trans s8).step (o := .lst [.ref th7]) hl) _ _ hs1) hp |>.symm
    obtain ⟨GE, eG, s5, hLE, thLE⟩ := odd_end (th := thLD) s8 thyLE hl hp
    rw [eG]
    have sGE := sGD.trans (s8.trans s5)
    clear eG hl hp
    have hxLE : ∃ ys, ys = xsLD ++ ([.ref th7] : List V) := ⟨_, rfl⟩
    obtain ⟨xsLE, exLE⟩ := hxLE
    rw [← exLE] at hLE thLE
    have lxsLE : xsLE.length = xsLD.length + 1 := by rw [exLE, List.length_append]; rfl
    rw [lxsLD] at lxsLE
    clear exLE
    have lxE : LX GE ex := fun e he => let ⟨xs, z⟩ := lx1 e he; ⟨xs, sGE _ _ z⟩
    refine ⟨_, rfl, _, rfl, s, a, ns, _, _, rfl, S1.same sGE, by omega, by decide, by decide, fun j H3 j0 j1 S3 k3 => ?_⟩
    have hj : j.toNat < xsLE.length := by omega
    exact ⟨LE, xsLE, j, xsLE[j.toNat], rfl, rfl, SqL.of (k3 _ _ hLE (by simp [nLE])), at_of (j := j.toNat) (by omega) (List.getElem?_eq_getElem hj), fin _ H3 ((thLE _ (List.getElem_mem hj)).keep lxE fun b o e n => k3 b o e fun m => n (by rw [List.mem_singleton.mp m]; exact se)) S3 ((k1.trans sGE.keep).trans k3)⟩
end
end Kx
namespace Kx
open PySem L2
theorem th_repr {K : PySem.W.Frag} {c : Addr} {ex : List Addr} {H : Hp} {x : V} (h : Th c ex H x) : ∃ z : Str, ∀ (H' : Hp) (Q : VK), Same H H' → Q (.str z) H' → rReprG K c (sp_Wrepr c) [x] H' Q := by
  rcases h.shows (K := K) with ⟨d, h1, h2⟩ | ⟨a, rfl, wb⟩
  · exact ⟨d.shown, fun H' Q s q => .inl ⟨x, d, rfl, h1.same s, h2, q⟩⟩
  · obtain ⟨dx, p1, p2, p3, ts, hw, _⟩ := id wb
    exact ⟨repW [] [], fun H' Q s q => .inr ⟨a, dx, _, rfl, s _ _ hw, a, [], [], rfl, wb.same s, ⟨by decide, (fun x hx => nomatch hx), (fun r hr => nomatch hr), List.nodup_nil⟩, ⟨_, rfl⟩, q⟩⟩
theorem IsFt.same {c : Addr} {H H' : Hp} {x : V} {n1 n2 : Nat} {c1 c2 r1 r2 : List Int} {M1 M2 : Nat → Nat → Int} (s : Same H H') (h : KW c H x) : IsFt H x n1 c1 M1 r1 n2 c2 M2 r2 ↔ IsFt H' x n1 c1 M1 r1 n2 c2 M2 r2 := by
  cases en : namV H (n1 : Int) x with
  | false => exact iff_of_false (IsFt.no en) (IsFt.no (by rw [h.namV_same s]; exact en))
  | true =>
    obtain ⟨q, f, rfl, hq, _⟩ := nam_ints en
    rw [IsFt.yes hq, IsFt.yes (s _ _ hq)]
def sp_law (K : PySem.W.Frag) : Sp := fun vs H Q _ => ∃ (a : Addr) (ns : List Int), vs = [.ref a] ∧ SqL K H a (ns.map V.int) ∧ ns.length ≤ 63 ∧ ∀ H', Q (.bl true) H'
section
variable {P : Program} {w : World} {K : PySem.W.Frag} {mg : Str → Option Value} {base : Heap} {c : Addr}
theorem sc_law : FnScope ["_law_script", "_law_state", "_law_one", "_law_other", "_law_naming", "_law_row", "_law_other_row", "_law_many", "_law_things", "_law_web_here", "_law_other_web", "_law_thing", "_law_kept", "_law_due", "_law_k"] ["_law_script"] (defScope s_law) := ⟨rfl, rfl, rfl, by decide +kernel, rfl, by decide +kernel, by decide +kernel⟩
set_option maxHeartbeats 0 in
theorem ok_law {f : Addr} {fd : FuncData} (F : Fun K "law" "law" s_law f fd) (T : Txt mg) (F_ftwo : Fn P w K mg base "_law_two" 4 ["_law_state", "_law_most"] (sp_ftwo K)) (F_frows : Fn P w K mg base "_law_rows" 3 ["_law_state", "_law_one", "_law_other", "_law_naming"] (sp_frows K)) (F_ffitting : Fn P w K mg base "_law_fitting" 2 ["_law_one", "_law_row", "_law_other", "_law_other_row"] sp_ffitting) (F_fexchanged : Fn P w K mg base "_law_exchanged" 2 ["_law_state", "_law_naming"] (sp_fexchanged K)) (F_forder : Fn P w K mg base "_law_order" 2 ["_law_state", "_law_many"] (sp_forder K)) (F_foddnam : Fn P w K mg base "_law_odd_naming" 8 ["_law_state", "_law_naming"] (sp_foddnam K c))
    (F_fmade : Fn P w K mg base "_law_made" 8 ["_law_one"] (sp_fmade c)) (F_fisfit : Fn P w K mg base "_law_is_fit" 2 ["_law_one", "_law_row", "_law_other", "_law_other_row", "_law_thing"] (sp_hisfit c)) (F_fsays : Fn P w K mg base "_law_says" 1 ["_law_found", "_law_due"] sp_fsays) (F_fits : Fn P w K mg base "fits" 10 ["web", "row", "other", "other_row", "thing"] (sp_fits c)) (M_repr : Mt P w K mg base c "__repr__" 1 ["self"] (sp_Wrepr c)) (M_eq : Mt P w K mg base c "__eq__" 1 ["self", "other"] (sp_Weq c)) : FnOk P w K mg base CX0 12 f fd ["_law_script"] (sp_law K) := by
  refine F.ok sc_law (fun vs H Q E h => ?_) (fun cdv A outer st H vs Q E0' hr h => ?_)
  · obtain ⟨a, ns, rfl, _⟩ := h
    rfl
  · have nd := sc_law.nd
    obtain ⟨a, ns, rfl, hS, hl, fin⟩ := h
    refine ⟨_, (qss_consR (qs_set (i := 1) nd rfl (Or.inr rfl) (qe_lst (qa_cons (pv 0) (qa_cons pe_int (qa_cons pe_int (qa_cons pe_int qa_nil))))))
      (pss_cons (ps_asg (pe_fn F_ftwo hr (pa_cons (pv 1) (pa_cons pe_int pa_nil))) (pg_lstK (K := K) rfl (pgs_cons (pg_name (i := 2) nd rfl (Or.inl rfl)) (pgs_cons (pg_name (i := 3) nd rfl (Or.inl rfl)) (pgs_cons (pg_name (i := 4) nd rfl (Or.inr rfl)) pgs_nil)))))
      (pss_cons (ps_asg (pe_fn F_frows hr (pa_cons (pv 1) (pa_cons (pv 2) (pa_cons (pv 3) (pa_cons (pv 4) pa_nil))))) (pg_lstK (K := K) rfl (pgs_cons (pg_name (i := 5) nd rfl (Or.inl rfl)) (pgs_cons (pg_name (i := 6) nd rfl (Or.inl rfl)) pgs_nil))))
      (pss_cons (ps_set (i := 7) nd rfl (Or.inr rfl) (pe_callB (call_lenK (K := K)) (by rfl) T.len (by decide +kernel) (pa_cons (pe_ix (ix_listK (K := K)) (pv 2) pe_int (fun _ _ => rfl)) pa_nil)))
      (pss_cons (ps_set (i := 8) nd rfl (Or.inl rfl) (pe_op op_cat (pe_op op_cat (pe_lstQ (qa_cons (pv 4) qa_nil)) (pe_slice (sl_listK (K := K)) (pe_fn F_ffitting hr (pa_cons (pv 2) (pa_cons (pv 5) (pa_cons (pv 3) (pa_cons (pv 6) pa_nil))))) po_none (po_some pe_int))) (pe_lstQ (qa_cons (pe_fn F_fexchanged hr (pa_cons (pv 1) (pa_cons (pv 4) pa_nil))) qa_nil))))
      (pss_cons (ps_set (i := 8) nd rfl (Or.inl rfl) (pe_op op_cat (pv 8) (pe_lc (own := [("_law_k", 14)]) (g := gName 14) (by rfl) nd (pi_range1 (by rfl) T.range (pa_cons pe_int pa_nil)) (blkOk_by (own := [("_law_k", 14)]) (N := ["_law_script", "_law_state", "_law_one", "_law_other", "_law_naming", "_law_row", "_law_other_row", "_law_many", "_law_things", "_law_web_here", "_law_other_web", "_law_thing", "_law_kept", "_law_due", "_law_k"]) (sc := defScope s_law) (by decide +kernel)) (fun _ _ _ _ _ => (pg_name (i := 14) nd rfl (Or.inl rfl))) (fun _ _ _ _ _ => pts_nil) (fun _ _ _ _ _ => (pe_fn F_forder hr (pa_cons (pv 1) (pa_cons (pv 7) pa_nil)))))))
      (pss_cons (ps_set (i := 8) nd rfl (Or.inl rfl) (pe_op op_cat (pv 8) (pe_lc (own := [("_law_k", 14)]) (g := gName 14) (by rfl) nd (pi_range1 (by rfl) T.range (pa_cons pe_int pa_nil)) (blkOk_by (own := [("_law_k", 14)]) (N := ["_law_script", "_law_state", "_law_one", "_law_other", "_law_naming", "_law_row", "_law_other_row", "_law_many", "_law_things", "_law_web_here", "_law_other_web", "_law_thing", "_law_kept", "_law_due", "_law_k"]) (sc := defScope s_law) (by decide +kernel)) (fun _ _ _ _ _ => (pg_name (i := 14) nd rfl (Or.inl rfl))) (fun _ _ _ _ _ => pts_nil) (fun _ _ _ _ _ => (pe_fn F_foddnam hr (pa_cons (pv 1) (pa_cons (pv 4) pa_nil)))))))
      (pss_cons (ps_set (i := 9) nd rfl (Or.inl rfl) (pe_fn F_fmade hr (pa_cons (pv 2) pa_nil)))
      (pss_cons (ps_set (i := 10) nd rfl (Or.inl rfl) (pe_fn F_fmade hr (pa_cons (pv 3) pa_nil)))
      (pss_cons (ps_for PassesOwn.never rfl (pi_listK (K := K) (pe_op op_cat (pv 8) (pe_slice (sl_listK (K := K)) (pv 8) po_none (po_some pe_int)))) (pg_name (i := 11) nd rfl (Or.inl rfl))
      (pss_cons (ps_set (i := 12) nd rfl (Or.inl rfl) (pe_callB (cr_reprG (K := K) M_repr hr) (by rfl) T.repr (by decide +kernel) (pa_cons (pv 11) pa_nil)))
      (pss_cons (ps_set (i := 13) nd rfl (Or.inl rfl) (pe_fn F_fisfit hr (pa_cons (pv 2) (pa_cons (pv 5) (pa_cons (pv 3) (pa_cons (pv 6) (pa_cons (pv 11) pa_nil)))))))
      (pss_one (ps_if (PW.pt (pw_or (pt_not (pt_val (pe_fn F_fsays hr (pa_cons (pe_fn F_fits hr (pa_cons (pv 9) (pa_cons (pv 5) (pa_cons (pv 10) (pa_cons (pv 6) (pa_cons (pv 11) pa_nil)))))) (pa_cons (pv 13) pa_nil))))) (pw_or1 (pt_cmpR op_ne (pe_callB (cr_reprG (K := K) M_repr hr) (by rfl) T.repr (by decide +kernel) (pa_cons (pv 11) pa_nil)) (pv 12) (nomark _)))))
      (pss_one (ps_ret pe_bl))
      pss_nil)))))
      (pss_one (ps_ret (pe_and (pe_cmpR (op_eqI M_eq hr) (pv 9) (pe_fn F_fmade hr (pa_cons (pv 2) pa_nil)) (nomark _)) (pe_one (pe_cmpR (op_eqI M_eq hr) (pv 10) (pe_fn F_fmade hr (pa_cons (pv 3) pa_nil)) (nomark _)))))))))))))))).out, ?_⟩
    have z1 : (1 : Nat) ≤ sizeLine := by decide
    have z4 : (4 : Nat) ≤ sizeLine := by decide
    refine ⟨_, rfl, z4, fun s hs => ?_⟩
    have S0 : SAt K (upd H s (.lst [.ref a, .int 0, .int 0, .int 31])) s a ns 0 := ⟨0, 0, 31, upd_same, (Same.new hs).seq hS, hl, by decide, by decide, by decide, by decide⟩
    generalize upd H s (.lst [.ref a, .int 0, .int 0, .int 31]) = H0 at S0 ⊢
    refine ⟨_, rfl, s, a, ns, 0, 6, rfl, S0, by decide, by decide, by decide, fun t p1 p2 q m1 m2 c1 c2 φ M1 M2 H1 ht pa1 o1 pa2 o2 hq iN b1 b2 S1 k1 => ?_⟩
    refine ⟨t, _, rfl, SqL.of ht, rfl, _, _, rfl, _, _, rfl, _, _, rfl, rfl, ?_⟩
    refine ⟨_, rfl, _, rfl, _, rfl, _, rfl, s, a, p1, p2, q, ns, _, m1, m2, c1, c2, φ, M1, M2, rfl, S1, by omega, pa1, o1.cl, pa2, o2.cl, by omega, by omega, hq, iN, fun tt r1 r2 row1 row2 H2 htt h1 h2 ok1 ok2 S2 k2 => ?_⟩
    refine ⟨tt, _, rfl, SqL.of htt, rfl, _, _, rfl, _, _, rfl, rfl, ?_⟩
    have pa1 := pa1.keepS S1 k2
    have pa2 := pa2.keepS S1 k2
    have hq2 := Ti.keepS S1 k2 hq
    obtain ⟨t1, tb1, rs1, hp1, hc1, _⟩ := id pa1
    refine ⟨_, rfl, p1, _, _, _, rfl, rfl, SqL.of hp1, at_of (j := 0) rfl rfl, t1, _, rfl, .inr (SqT.of hc1), ?_⟩
    rw [List.length_map, o1.cl]
    change tSeq _ _ _ [some (.ref a), some (.ref s), some (.ref p1), some (.ref p2), some (.ref q), some (.ref r1), some (.ref r2), some (.int (m1 : Int)), none, none, none, none, none, none, none] H2
    -- the first things
    have rl1 := row_len ok1
    refine ⟨_, rfl, z1, fun lA hlA => ⟨_, rfl, _, rfl, _, rfl, _, rfl, p1, r1, p2, r2, m1, m2, c1, c2, row1, row2, M1, M2, rfl, pa1.same (Same.new hlA), o1.cl, pa2.same (Same.new hlA), o2.cl, b1, Same.new hlA _ _ h1, Same.new hlA _ _ h2, by omega, fun l us fs H3 s3 ln hl3 prd allN => ?_⟩⟩
    have sA := Same.new (o := .lst [.ref q]) hlA
    have hA3 := s3 _ _ (upd_same (H := H2) (a := lA) (o := .lst [V.ref q]))
    have s23 := sA.trans s3
    refine ⟨_, rfl, l, _, rfl, SqL.of hl3, fun l3 hl3n => ?_⟩
    rw [show (3 : Int) = ((3 : Nat) : Int) from rfl, cut_to]
    have s4 := Same.new (o := .lst ((us.map V.ref).take 3)) hl3n
    have hl34 := upd_same (H := H3) (a := l3) (o := .lst ((us.map V.ref).take 3))
    generalize upd H3 l3 (.lst ((us.map V.ref).take 3)) = H4 at s4 hl34 ⊢
    have l3len : ((us.map V.ref).take 3).length ≤ 3 := by rw [List.length_take]; omega
    refine ⟨lA, l3, _, _, rfl, rfl, s4 _ _ hA3, hl34, Nat.le_trans (Nat.add_le_add (Nat.le_refl 1) l3len) (by decide), fun lC hlC => ?_⟩
    have s5 := Same.new (o := .lst ([V.ref q] ++ (us.map V.ref).take 3)) hlC
    have hC5 := upd_same (H := H4) (a := lC) (o := .lst ([V.ref q] ++ (us.map V.ref).take 3))
    have s25 := s23.trans (s4.trans s5)
    have lCs := (S2.same (s23.trans s4)).ne hlC
    generalize upd H4 lC (.lst ([V.ref q] ++ (us.map V.ref).take 3)) = H5 at s5 hC5 s25 ⊢
    have S5 := S2.same s25
    refine ⟨_, rfl, _, rfl, s, a, q, ns, φ, _, m2, rfl, S5, by omega, s25 _ _ hq2, iN, by omega, fun te xe H6 hte lx inx S6 k6 => ⟨z1, fun lD hlD => ?_⟩⟩
    have hC6 := k6 _ _ hC5 (by simp [lCs])
    refine ⟨lC, lD, _, _, rfl, rfl, Same.new hlD _ _ hC6, upd_same, Nat.le_trans (Nat.add_le_add (show ([V.ref q] ++ (us.map V.ref).take 3).length ≤ 4 by rw [List.length_append]; show 1 + _ ≤ 4; omega) (Nat.le_refl 1)) (by decide), fun L hL => ?_⟩
    have bφ : ∀ x ∈ φ, 0 ≤ x ∧ x < (m2 : Int) := fun x hx => iN.mem.mp hx
    have nL := (S6.same (Same.new (o := .lst [.ref te]) hlD)).ne hL
    obtain ⟨G, xs, eG, S7, k7, hL7, lxs, th⟩ : ∃ G xs, upd (upd H6 lD (.lst [.ref te])) L (.lst ([V.ref q] ++ (us.map V.ref).take 3 ++ [.ref te])) = G ∧ SAt K G s a ns 1251 ∧ Keep [s] H2 G ∧ G L = some (.lst xs) ∧ xs.length ≤ 5 ∧ ∀ x ∈ xs, Th c [s] G x := by
      have s7 := (Same.new (o := .lst [.ref te]) hlD).step (o := .lst ([V.ref q] ++ (us.map V.ref).take 3 ++ [.ref te])) hL
      have k27 := (s25.keep.trans k6).trans (s7.keep (ex := [s]))
      refine ⟨_, _, rfl, (S6.same s7).more (by omega), k27, upd_same, ?_, fun x hx => ?_⟩
      · rw [List.length_append, List.length_append]; show 1 + _ + 1 ≤ 5; omega
      · rcases List.mem_append.mp hx with hx | hx
        · rcases List.mem_append.mp hx with hx | hx
          · rw [List.mem_singleton.mp hx]
            exact th_ti (Ti.keepS S2 k27 hq2) (by have := iN.length; omega) (small_in (by omega) bφ)
          · obtain ⟨u, hu, rfl⟩ := List.mem_map.mp (List.mem_of_mem_take hx)
            obtain ⟨g, hg, tu⟩ := paired_mem prd u hu
            have iNg := allN g hg
            have tu5 : TI H5 u g := (s4.trans s5) _ _ tu
            exact th_ti (s7 _ _ (Ti.keepS S5 k6 tu5)) (by have := iNg.length; omega) (small_in (m := m1) (by omega) fun x hx => iNg.mem.mp hx)
        · rw [List.mem_singleton.mp hx]
          exact th_ti (s7 _ _ hte) (by omega) (small_in (m := m2) (by omega) fun x hx => bφ x (inx x hx))
    rw [eG]
    clear eG hL hlD hC6 hC5 s5 hlC hlA hA3 hl3 hl34 hl3n
    change tSeq _ _ _ [some (.ref a), some (.ref s), some (.ref p1), some (.ref p2), some (.ref q), some (.ref r1), some (.ref r2), some (.int (m1 : Int)), some (.ref L), none, none, none, none, none, none] G
    have hq7 := Ti.keepS S2 k7 hq2
    have lx7 : LX G [s] := fun e he => by rw [List.mem_singleton.mp he]; obtain ⟨z, hz⟩ := S7.at; exact ⟨_, hz⟩
    -- four drawn namings
    refine ⟨_, rfl, ((4 : Nat) : Int), rfl, by decide, by decide, fun D hD => lc_range (lo := 0) (n := 4) (fun i H' => SAt K H' s a ns (1251 + 20 * i) ∧ Keep [s] G H' ∧ ∃ us : List Addr, H' D = some (.lst (us.map V.ref)) ∧ us.length = i ∧ ∀ u ∈ us, ∃ f, TI H' u f ∧ Nm.IsN m1 f) ⟨(S7.same (Same.new hD)).more (by omega), (Same.new hD).keep, [], upd_same, rfl, fun x hx => nomatch hx⟩ ?_ ?_⟩
    · rintro i H8 hi ⟨S8, k8, us4, hD8, ly, ty⟩
      have Ds := S7.ne hD
      refine ⟨rfl, _, rfl, _, rfl, s, a, ns, _, m1, rfl, S8, by omega, by omega, fun qo ψ H9 i0 hqo S9 k9 => ?_⟩
      have hD9 := k9 _ _ hD8 (by simp [Ds])
      have up : ∀ t (r : List Int), TI H9 t r → TI (upd H9 D (.lst (us4.map V.ref ++ [.ref qo]))) t r := fun t r z => by
        show upd H9 D _ t = _
        rw [upd_ne (ne_of z hD9 (by intro q; cases q))]; exact z
      refine ⟨_, hD9, by rw [List.length_map, ly]; exact small1000 (by omega), S7.setNew hD (S9.more (by omega)), (k8.trans k9).setNew hD, us4 ++ [qo], by rw [upd_same, List.map_append]; rfl, by rw [List.length_append, ly]; rfl, fun y hy => ?_⟩
      rcases List.mem_append.mp hy with z | z
      · obtain ⟨f, f1, f2⟩ := ty y z
        exact ⟨f, up _ _ (Ti.keepS S8 k9 f1), f2⟩
      · rw [List.mem_singleton.mp z]; exact ⟨ψ, up _ _ hqo, i0⟩
    rintro H8 ⟨S8, k8, us4, hD8, l4, t4⟩
    refine ⟨L, D, _, _, rfl, rfl, k8 _ _ hL7 (by simp [nL]), hD8, by rw [List.length_map, l4]; exact Nat.le_trans (Nat.add_le_add lxs (Nat.le_refl 4)) (by decide), fun L2 hL2 => ?_⟩
    have nL2 := S8.ne hL2
    obtain ⟨G2, xs2, eG, S9, k9, hL9, lxs2, th2⟩ : ∃ G xs', upd H8 L2 (.lst (xs ++ us4.map V.ref)) = G ∧ SAt K G s a ns 1331 ∧ Keep [s] H2 G ∧ G L2 = some (.lst xs') ∧ xs'.length ≤ 9 ∧ ∀ x ∈ xs', Th c [s] G x := by
      have s9 := Same.new (o := .lst (xs ++ us4.map V.ref)) hL2
      refine ⟨_, _, rfl, (S8.same s9).more (by omega), (k7.trans k8).trans (s9.keep (ex := [s])), upd_same, ?_, fun x hx => ?_⟩
      · rw [List.length_append, List.length_map]; omega
      · rcases List.mem_append.mp hx with z | z
        · exact ((th x z).keep lx7 k8).same s9
        · obtain ⟨u, hu, rfl⟩ := List.mem_map.mp z
          obtain ⟨f, f1, f2⟩ := t4 u hu
          exact th_ti (s9 _ _ f1) (by have := f2.length; omega) (small_in (m := m1) (by omega) fun x hx => f2.mem.mp hx)
    rw [eG]
    clear eG hL2 hD8 t4
    change tSeq _ _ _ [some (.ref a), some (.ref s), some (.ref p1), some (.ref p2), some (.ref q), some (.ref r1), some (.ref r2), some (.int (m1 : Int)), some (.ref L2), none, none, none, none, none, none] G2
    have hq9 := Ti.keepS S2 k9 hq2
    have lx9 : LX G2 [s] := fun e he => by rw [List.mem_singleton.mp he]; obtain ⟨z, hz⟩ := S9.at; exact ⟨_, hz⟩
    -- six odd things
    refine ⟨_, rfl, ((6 : Nat) : Int), rfl, by decide, by decide, fun D2 hD2 => lc_range (lo := 0) (n := 6) (fun i H' => SAt K H' s a ns (1331 + 2 * i) ∧ Keep [s] G2 H' ∧ ∃ ys : List V, H' D2 = some (.lst ys) ∧ ys.length = i ∧ ∀ y ∈ ys, Th c [s, D2] H' y) ⟨(S9.same (Same.new hD2)).more (by omega), (Same.new hD2).keep, [], upd_same, rfl, fun x hx => nomatch hx⟩ ?_ ?_⟩
    · rintro i H10 hi ⟨S10, k10, ys, hD10, ly, ty⟩
      have Ds := S9.ne hD2
      obtain ⟨sx, hs10⟩ := S10.at
      have lx10 : LX H10 [s, D2] := fun e he => by
        rcases List.mem_cons.mp he with rfl | he
        · exact ⟨_, hs10⟩
        · rw [List.mem_singleton.mp he]; exact ⟨_, hD10⟩
      refine ⟨rfl, _, rfl, _, rfl, s, a, q, [s, D2], ns, φ, _, m2, rfl, List.mem_cons_self, lx10, S10, by omega, Ti.keepS S9 k10 hq9, iN, by omega, fun x H11 tx S11 k11 => ?_⟩
      have hD11 := k11 _ _ hD10 (by simp [Ds])
      have ksD : Keep [s, D2] H10 H11 := fun b o e n => k11 b o e fun m => n (by rw [List.mem_singleton.mp m]; exact List.mem_cons_self)
      have lx11 : LX H11 [s, D2] := lx10.keep k11 fun e he => by rw [List.mem_singleton.mp he]; obtain ⟨z, hz⟩ := S11.at; exact ⟨_, hz⟩
      have kset : Keep [s, D2] H11 (upd H11 D2 (.lst (ys ++ [x]))) := (Keep.refl _ _).set (by simp)
      refine ⟨_, hD11, by rw [ly]; exact small1000 (by omega), S9.setNew hD2 (S11.more (by omega)), (k10.trans k11).setNew hD2, _, upd_same, by rw [List.length_append, ly]; rfl, fun y hy => ?_⟩
      rcases List.mem_append.mp hy with z | z
      · exact ((ty y z).keep lx10 ksD).keep lx11 kset
      · rw [List.mem_singleton.mp z]; exact tx.keep lx11 kset
    rintro H10 ⟨S10, k10, ys, hD10, l6, t6⟩
    refine ⟨L2, D2, _, _, rfl, rfl, k10 _ _ hL9 (by simp [nL2]), hD10, by rw [l6]; exact Nat.le_trans (Nat.add_le_add lxs2 (Nat.le_refl 6)) (by decide), fun L3 hL3 => ?_⟩
    obtain ⟨G3, xs3, eG, S11, k11, hL11, lxs3, th3⟩ : ∃ G xs', upd H10 L3 (.lst (xs2 ++ ys)) = G ∧ SAt K G s a ns 1400 ∧ Keep [s] H2 G ∧ G L3 = some (.lst xs') ∧ xs'.length ≤ 15 ∧ ∀ x ∈ xs', Th c [s] G x := by
      have s9 := Same.new (o := .lst (xs2 ++ ys)) hL3
      refine ⟨_, _, rfl, (S10.same s9).more (by omega), (k9.trans k10).trans (s9.keep (ex := [s])), upd_same, ?_, fun x hx => ?_⟩
      · rw [List.length_append]; omega
      · rcases List.mem_append.mp hx with z | z
        · exact ((th2 x z).keep lx9 k10).same s9
        · exact ((t6 x z).sub (by simp)).same s9
    rw [eG]
    clear eG hL3 hD10 t6
    change tSeq _ _ _ [some (.ref a), some (.ref s), some (.ref p1), some (.ref p2), some (.ref q), some (.ref r1), some (.ref r2), some (.int (m1 : Int)), some (.ref L3), none, none, none, none, none, none] G3
    have pa1 := pa1.keepS S2 k11
    have pa2 := pa2.keepS S2 k11
    have h1 := Ti.keepS S2 k11 h1
    have h2 := Ti.keepS S2 k11 h2
    -- the webs
    refine ⟨_, rfl, p1, m1, c1, M1, rfl, pa1, o1, by omega, fun web E H12 s12 wb wok mk srt => ?_⟩
    refine ⟨_, rfl, p2, m2, c2, M2, rfl, pa2.same s12, o2, by omega, fun oth E2 H13 s13 wb2 wok2 mk2 srt2 => ?_⟩
    have s313 := s12.trans s13
    have wb := wb.same s13
    change tSeq _ _ _ [some (.ref a), some (.ref s), some (.ref p1), some (.ref p2), some (.ref q), some (.ref r1), some (.ref r2), some (.int (m1 : Int)), some (.ref L3), some (.ref web), some (.ref oth), none, none, none, none] H13
    have hL13 := s313 _ _ hL11
    have th13 : ∀ x ∈ xs3, Th c [s] H13 x := fun x hx => (th3 x hx).same s313
    have pa1 := pa1.same s313
    have pa2 := pa2.same s313
    have h1 := s313 _ _ h1
    have h2 := s313 _ _ h2
    refine ⟨_, rfl, _, rfl, _, rfl, L3, _, rfl, SqL.of hL13, fun L4 hL4 => ?_⟩
    have s4 := Same.new (o := .lst (cutV xs3 none (some 1))) hL4
    refine ⟨L3, L4, _, _, rfl, rfl, s4 _ _ hL13, upd_same, ?_, fun L5 hL5 => ?_⟩
    · rw [show (1 : Int) = ((1 : Nat) : Int) from rfl, cut_to]
      exact Nat.le_trans (Nat.add_le_add lxs3 (show (xs3.take 1).length ≤ 1 by rw [List.length_take]; omega)) (by decide)
    rw [show (1 : Int) = ((1 : Nat) : Int) from rfl, cut_to] at s4 hL5 ⊢
    have s45 := s4.step (o := .lst (xs3 ++ xs3.take 1)) hL5
    have hL5' := upd_same (H := upd H13 L4 (.lst (xs3.take 1))) (a := L5) (o := .lst (xs3 ++ xs3.take 1))
    generalize upd (upd H13 L4 (.lst (xs3.take 1))) L5 (.lst (xs3 ++ xs3.take 1)) = H14 at s45 hL5' ⊢
    have wb := wb.same s45
    have wb2 := wb2.same s45
    have pa1 := pa1.same s45
    have pa2 := pa2.same s45
    have h1 := s45 _ _ h1
    have h2 := s45 _ _ h2
    have th14 : ∀ x ∈ xs3 ++ xs3.take 1, Th c [s] H14 x := fun x hx => by
      rcases List.mem_append.mp hx with z | z
      · exact (th13 x z).same s45
      · exact (th13 x (List.mem_of_mem_take z)).same s45
    refine ⟨L5, rfl, ⟨_, SqL.of hL5'⟩, for_list (K := K) (a := L5) (xs := xs3 ++ xs3.take 1) (fun i σ H' => (∃ v11 v12 v13, σ = [some (.ref a), some (.ref s), some (.ref p1), some (.ref p2), some (.ref q), some (.ref r1), some (.ref r2), some (.int (m1 : Int)), some (.ref L3), some (.ref web), some (.ref oth), v11, v12, v13, none]) ∧ Same H14 H') ⟨⟨_, _, _, rfl⟩, Same.refl _⟩ (fun i σ H' _ h => SqL.of (h.2 _ _ hL5')) ?_ ?_⟩
    · rintro i x σ H15 hx ⟨⟨v11, v12, v13, rfl⟩, s15⟩
      have tx := (th14 x (List.mem_of_getElem? hx)).same s15
      obtain ⟨z, hz⟩ := th_repr (K := K) tx
      refine ⟨_, rfl, hz H15 _ (Same.refl _) ?_⟩
      refine ⟨_, rfl, _, rfl, _, rfl, _, rfl, _, rfl, p1, r1, p2, r2, x, m1, m2, c1, c2, row1, row2, M1, M2, rfl, pa1.same s15, o1, pa2.same s15, o2, by omega, by omega, s15 _ _ h1, ok1, s15 _ _ h2, tx.kw, fun b H16 hb s16 => ?_⟩
      have s1416 := s15.trans s16
      refine ⟨_, rfl, _, rfl, _, rfl, _, rfl, _, rfl, web, r1, oth, r2, x, m1, m2, c1, c2, row1, row2, E, E2, M1, M2, rfl, wb.same s1416, wok, o1.cl, mk, wb2.same s1416, wok2, o2.cl, mk2, srt2, s1416 _ _ h1, ok1, s1416 _ _ h2, ok2, (tx.same s16).kw, fun b2 H17 hb2 s17 => ?_⟩
      have eb : b2 = b := by
        rw [Bool.eq_iff_iff, hb, hb2]
        exact (IsFt.same s16 tx.kw).symm
      subst eb
      refine ⟨_, rfl, b2, b2, rfl, ?_⟩
      rw [beq_self_eq_true]
      refine ⟨_, rfl, iteF ⟨_, rfl, hz H17 _ (s16.trans s17) ⟨_, rfl, rfl, _, rfl, ?_⟩⟩⟩
      rw [decide_eq_true rfl]
      exact iteF ⟨⟨_, _, _, rfl⟩, s1416.trans s17⟩
    · rintro σ H15 ⟨⟨v11, v12, v13, rfl⟩, s15⟩
      have eqE : ∀ {n : Nat} {cs : List Int} {M : Nat → Nat → Int} {A B : List R3}, cs.length = n → WOk cs A → WOk cs B → SrtR A → SrtR B → (∀ a b : Nat, a < n → b < n → mkR A a b = M a b) → (∀ a b : Nat, a < n → b < n → mkR B a b = M a b) → A = B := fun {n cs M A B} l oA oB sA sB mA mB => by
        have rA := oA.row
        have rB := oB.row
        rw [l] at rA rB
        exact mk_uniq rA rB oA.nd oB.nd sA sB fun a b ha hb => by rw [mA a b ha hb, mB a b ha hb]
      obtain ⟨dx, q1, q2, q3, ts, hw, _⟩ := id wb
      obtain ⟨dx', q1', q2', q3', ts', hw', _⟩ := id wb2
      refine ⟨_, rfl, _, rfl, p1, m1, c1, M1, rfl, pa1.same s15, o1, by omega, fun webB EB H16 s16 wbB wokB mkB srtB => ?_⟩
      have e1 := eqE o1.cl wok wokB srt srtB mk mkB
      subst e1
      obtain ⟨dxB, qB1, qB2, qB3, tsB, hwB, _⟩ := id wbB
      have s1 := s15.trans s16
      refine ⟨web, dx, _, rfl, s1 _ _ hw, .inr ⟨webB, dxB, _, rfl, hwB⟩, web, .ref webB, c1, E, rfl, wb.same s1, .inr ⟨webB, c1, E, rfl, wbB, _, rfl, ?_⟩⟩
      rw [decide_eq_true rfl, decide_eq_true rfl]
      refine ⟨_, rfl, _, rfl, _, rfl, p2, m2, c2, M2, rfl, pa2.same s1, o2, by omega, fun webC EC H17 s17 wbC wokC mkC srtC => ?_⟩
      have e2 := eqE o2.cl wok2 wokC srt2 srtC mk2 mkC
      subst e2
      obtain ⟨dxC, qC1, qC2, qC3, tsC, hwC, _⟩ := id wbC
      have s2 := s1.trans s17
      refine ⟨oth, dx', _, rfl, s2 _ _ hw', .inr ⟨webC, dxC, _, rfl, hwC⟩, oth, .ref webC, c2, E2, rfl, wb2.same s2, .inr ⟨webC, c2, E2, rfl, wbC, _, rfl, ?_⟩⟩
      rw [decide_eq_true rfl, decide_eq_true rfl]
      exact fin _
end
end Kx
namespace Kx
open PySem L2
set_option maxHeartbeats 0 in
theorem all_mk {l : PySem.W.OpenLaw} {w : World} {K : PySem.W.Frag} {h : Heap} {mg : Str → Option Value} {fa f1 f2 f3 f4 f5 f6 f7 f8 f9 f10 f11 f12 f13 f14 f15 f16 f17 f18 f19 f20 f21 f22 f23 f24 f25 f26 f27 f28 f29 f30 f31 f32 f33 f34 f35 f36 f37 f38 f39 f40 : Addr} (X : K.In h) (G : h.Ns mainGlobals mg) (hfa : mg "law" = some (.ref fa))
    {od1 an1 od2 an2 od3 an3 od4 an4 od5 an5 od6 an6 od7 an7 od8 an8 od9 an9 od10 an10 od11 an11 od12 an12 od13 an13 od14 an14 od15 an15 od16 an16 od17 an17 od18 an18 od19 an19 od20 an20 od21 an21 od22 an22 od23 an23 od24 an24 od25 an25 od26 an26 od27 an27 od28 an28 od29 an29 od30 an30 od31 an31 od32 an32 od33 an33 od34 an34 od35 an35 od36 an36 od37 an37 od38 an38 od39 an39 od40 an40 : Option Addr} {sl1 sl2 sl3 sl4 sl5 sl6 sl7 sl8 sl9 sl10 sl11 sl12 sl13 sl14 sl15 sl16 sl17 sl18 sl19 sl20 sl21 sl22 sl23 sl24 sl25 sl26 sl27 sl28 sl29 sl30 sl31 sl32 sl33 sl34 sl35 sl36 sl37 sl38 sl39 sl40 : Array (Option Value)} {oc1 kV1 dc1 pm1 cd1 ct1 oc2 kV2 dc2 pm2 cd2 ct2 oc3 kV3 dc3 pm3 cd3 ct3 oc4 kV4 dc4 pm4 cd4 ct4 oc5 kV5 dc5 pm5 cd5 ct5 oc6 kV6 dc6 pm6 cd6 ct6 oc7 kV7 dc7 pm7 cd7 ct7 oc8 kV8 dc8 pm8 cd8 ct8 oc9 kV9 dc9 pm9 cd9 ct9 oc10 kV10 dc10 pm10 cd10 ct10 oc11 kV11 dc11 pm11 cd11 ct11 oc12 kV12 dc12 pm12 cd12 ct12 oc13 kV13 dc13 pm13 cd13 ct13 oc14 kV14 dc14 pm14 cd14 ct14 oc15 kV15 dc15 pm15 cd15 ct15 oc16 kV16 dc16 pm16 cd16 ct16 oc17 kV17 dc17 pm17 cd17 ct17 oc18 kV18 dc18 pm18 cd18 ct18 oc19 kV19 dc19 pm19 cd19 ct19 oc20 kV20 dc20 pm20 cd20 ct20 oc21 kV21 dc21 pm21 cd21 ct21 oc22 kV22 dc22 pm22 cd22 ct22 oc23 kV23 dc23 pm23 cd23 ct23 oc24 kV24 dc24 pm24 cd24 ct24 oc25 kV25 dc25 pm25 cd25 ct25 oc26 kV26 dc26 pm26 cd26 ct26 oc27 kV27 dc27 pm27 cd27 ct27 oc28 kV28 dc28 pm28 cd28 ct28 oc29 kV29 dc29 pm29 cd29 ct29 oc30 kV30 dc30 pm30 cd30 ct30 oc31 kV31 dc31 pm31 cd31 ct31 oc32 kV32 dc32 pm32 cd32 ct32 oc33 kV33 dc33 pm33 cd33 ct33 oc34 kV34 dc34 pm34 cd34 ct34 oc35 kV35 dc35 pm35 cd35 ct35 oc36 kV36 dc36 pm36 cd36 ct36 oc37 kV37 dc37 pm37 cd37 ct37 oc38 kV38 dc38 pm38 cd38 ct38 oc39 kV39 dc39 pm39 cd39 ct39 oc40 kV40 dc40 pm40 cd40 ct40 : Value}
    {cWeb TT a0  : Addr} {t_MOST : _} {t_GREATEST : _} {cT : Value} {oT : Option Addr} {nT : Nat} {sT : Array (Option Value)} 
    (m_Web : PySem.W.nsIn K mainGlobals "Web" = some (some (.ref cWeb)))
    (a1 : PySem.W.nsIn K mainGlobals "is_whole" = some (some (.ref f1)))
    (l1 : K.lookup f1 = some ⟨oc1, od1, .func (PySem.W.fnOf "is_whole" "is_whole" (defArgs s_iswhole) (defBody s_iswhole) (defScope s_iswhole) .none kV1 dc1 pm1 an1 cd1 ct1), sl1⟩)
    (c1 : PySem.W.codeIn K cd1 "is_whole" = true)
    (k1 : PySem.W.keepIn K (.ref f1) = true)
    (a2 : PySem.W.nsIn K mainGlobals "is_between" = some (some (.ref f2)))
    (l2 : K.lookup f2 = some ⟨oc2, od2, .func (PySem.W.fnOf "is_between" "is_between" (defArgs s_isbetween) (defBody s_isbetween) (defScope s_isbetween) .none kV2 dc2 pm2 an2 cd2 ct2), sl2⟩)
    (c2 : PySem.W.codeIn K cd2 "is_between" = true)
    (k2 : PySem.W.keepIn K (.ref f2) = true)
    (a3 : PySem.W.nsIn K mainGlobals "has_each_once" = some (some (.ref f3)))
    (l3 : K.lookup f3 = some ⟨oc3, od3, .func (PySem.W.fnOf "has_each_once" "has_each_once" (defArgs s_eachonce) (defBody s_eachonce) (defScope s_eachonce) .none kV3 dc3 pm3 an3 cd3 ct3), sl3⟩)
    (c3 : PySem.W.codeIn K cd3 "has_each_once" = true)
    (k3 : PySem.W.keepIn K (.ref f3) = true)
    (a4 : PySem.W.nsIn K mainGlobals "is_naming" = some (some (.ref f4)))
    (l4 : K.lookup f4 = some ⟨oc4, od4, .func (PySem.W.fnOf "is_naming" "is_naming" (defArgs s_isnaming) (defBody s_isnaming) (defScope s_isnaming) .none kV4 dc4 pm4 an4 cd4 ct4), sl4⟩)
    (c4 : PySem.W.codeIn K cd4 "is_naming" = true)
    (k4 : PySem.W.keepIn K (.ref f4) = true)
    (a5 : PySem.W.nsIn K mainGlobals "back" = some (some (.ref f5)))
    (l5 : K.lookup f5 = some ⟨oc5, od5, .func (PySem.W.fnOf "back" "back" (defArgs s_back) (defBody s_back) (defScope s_back) .none kV5 dc5 pm5 an5 cd5 ct5), sl5⟩)
    (c5 : PySem.W.codeIn K cd5 "back" = true)
    (k5 : PySem.W.keepIn K (.ref f5) = true)
    (a6 : PySem.W.nsIn K mainGlobals "carried_row" = some (some (.ref f6)))
    (l6 : K.lookup f6 = some ⟨oc6, od6, .func (PySem.W.fnOf "carried_row" "carried_row" (defArgs s_carriedrow) (defBody s_carriedrow) (defScope s_carriedrow) .none kV6 dc6 pm6 an6 cd6 ct6), sl6⟩)
    (c6 : PySem.W.codeIn K cd6 "carried_row" = true)
    (k6 : PySem.W.keepIn K (.ref f6) = true)
    (a7 : PySem.W.nsIn K mainGlobals "is_colour" = some (some (.ref f7)))
    (l7 : K.lookup f7 = some ⟨oc7, od7, .func (PySem.W.fnOf "is_colour" "is_colour" (defArgs s_iscolour) (defBody s_iscolour) (defScope s_iscolour) .none kV7 dc7 pm7 an7 cd7 ct7), sl7⟩)
    (c7 : PySem.W.codeIn K cd7 "is_colour" = true)
    (k7 : PySem.W.keepIn K (.ref f7) = true)
    (a8 : PySem.W.nsIn K mainGlobals "is_mark" = some (some (.ref f8)))
    (l8 : K.lookup f8 = some ⟨oc8, od8, .func (PySem.W.fnOf "is_mark" "is_mark" (defArgs s_ismark) (defBody s_ismark) (defScope s_ismark) .none kV8 dc8 pm8 an8 cd8 ct8), sl8⟩)
    (c8 : PySem.W.codeIn K cd8 "is_mark" = true)
    (k8 : PySem.W.keepIn K (.ref f8) = true)
    (a9 : PySem.W.nsIn K mainGlobals "is_corner" = some (some (.ref f9)))
    (l9 : K.lookup f9 = some ⟨oc9, od9, .func (PySem.W.fnOf "is_corner" "is_corner" (defArgs s_iscorner) (defBody s_iscorner) (defScope s_iscorner) .none kV9 dc9 pm9 an9 cd9 ct9), sl9⟩)
    (c9 : PySem.W.codeIn K cd9 "is_corner" = true)
    (k9 : PySem.W.keepIn K (.ref f9) = true)
    (a10 : PySem.W.nsIn K mainGlobals "are_colours" = some (some (.ref f10)))
    (l10 : K.lookup f10 = some ⟨oc10, od10, .func (PySem.W.fnOf "are_colours" "are_colours" (defArgs s_arecolours) (defBody s_arecolours) (defScope s_arecolours) .none kV10 dc10 pm10 an10 cd10 ct10), sl10⟩)
    (c10 : PySem.W.codeIn K cd10 "are_colours" = true)
    (k10 : PySem.W.keepIn K (.ref f10) = true)
    (a11 : PySem.W.nsIn K mainGlobals "is_arrow" = some (some (.ref f11)))
    (l11 : K.lookup f11 = some ⟨oc11, od11, .func (PySem.W.fnOf "is_arrow" "is_arrow" (defArgs s_isarrow) (defBody s_isarrow) (defScope s_isarrow) .none kV11 dc11 pm11 an11 cd11 ct11), sl11⟩)
    (c11 : PySem.W.codeIn K cd11 "is_arrow" = true)
    (k11 : PySem.W.keepIn K (.ref f11) = true)
    (a12 : PySem.W.nsIn K mainGlobals "marks_of" = some (some (.ref f12)))
    (l12 : K.lookup f12 = some ⟨oc12, od12, .func (PySem.W.fnOf "marks_of" "marks_of" (defArgs s_marksof) (defBody s_marksof) (defScope s_marksof) .none kV12 dc12 pm12 an12 cd12 ct12), sl12⟩)
    (c12 : PySem.W.codeIn K cd12 "marks_of" = true)
    (k12 : PySem.W.keepIn K (.ref f12) = true)
    (a13 : PySem.W.nsIn K mainGlobals "ties_of" = some (some (.ref f13)))
    (l13 : K.lookup f13 = some ⟨oc13, od13, .func (PySem.W.fnOf "ties_of" "ties_of" (defArgs s_tiesof) (defBody s_tiesof) (defScope s_tiesof) .none kV13 dc13 pm13 an13 cd13 ct13), sl13⟩)
    (c13 : PySem.W.codeIn K cd13 "ties_of" = true)
    (k13 : PySem.W.keepIn K (.ref f13) = true)
    (a14 : PySem.W.findIn K (.ref cWeb) "__init__" = some (some (.ref f14)))
    (i14 : PySem.W.isFn K (.ref f14) = true)
    (l14 : K.lookup f14 = some ⟨oc14, od14, .func (PySem.W.fnOf "__init__" "Web.__init__" (defArgs s_Winit) (defBody s_Winit) (defScope s_Winit) (.ref TT) kV14 dc14 pm14 an14 cd14 ct14), sl14⟩)
    (c14 : PySem.W.codeIn K cd14 "Web.__init__" = true)
    (k14 : PySem.W.keepIn K (.ref f14) = true)
    (a15 : PySem.W.findIn K (.ref cWeb) "__len__" = some (some (.ref f15)))
    (i15 : PySem.W.isFn K (.ref f15) = true)
    (l15 : K.lookup f15 = some ⟨oc15, od15, .func (PySem.W.fnOf "__len__" "Web.__len__" (defArgs s_Wlen) (defBody s_Wlen) (defScope s_Wlen) .none kV15 dc15 pm15 an15 cd15 ct15), sl15⟩)
    (c15 : PySem.W.codeIn K cd15 "Web.__len__" = true)
    (k15 : PySem.W.keepIn K (.ref f15) = true)
    (a16 : PySem.W.nsIn K mainGlobals "renamed" = some (some (.ref f16)))
    (l16 : K.lookup f16 = some ⟨oc16, od16, .func (PySem.W.fnOf "renamed" "renamed" (defArgs s_renamed) (defBody s_renamed) (defScope s_renamed) .none kV16 dc16 pm16 an16 cd16 ct16), sl16⟩)
    (c16 : PySem.W.codeIn K cd16 "renamed" = true)
    (k16 : PySem.W.keepIn K (.ref f16) = true)
    (a17 : PySem.W.nsIn K mainGlobals "leads" = some (some (.ref f17)))
    (l17 : K.lookup f17 = some ⟨oc17, od17, .func (PySem.W.fnOf "leads" "leads" (defArgs s_leads) (defBody s_leads) (defScope s_leads) .none kV17 dc17 pm17 an17 cd17 ct17), sl17⟩)
    (c17 : PySem.W.codeIn K cd17 "leads" = true)
    (k17 : PySem.W.keepIn K (.ref f17) = true)
    (a18 : PySem.W.nsIn K mainGlobals "is_row" = some (some (.ref f18)))
    (l18 : K.lookup f18 = some ⟨oc18, od18, .func (PySem.W.fnOf "is_row" "is_row" (defArgs s_isrow) (defBody s_isrow) (defScope s_isrow) .none kV18 dc18 pm18 an18 cd18 ct18), sl18⟩)
    (c18 : PySem.W.codeIn K cd18 "is_row" = true)
    (k18 : PySem.W.keepIn K (.ref f18) = true)
    (a19 : PySem.W.nsIn K mainGlobals "check_row" = some (some (.ref f19)))
    (l19 : K.lookup f19 = some ⟨oc19, od19, .func (PySem.W.fnOf "check_row" "check_row" (defArgs s_ckrow) (defBody s_ckrow) (defScope s_ckrow) .none kV19 dc19 pm19 an19 cd19 ct19), sl19⟩)
    (c19 : PySem.W.codeIn K cd19 "check_row" = true)
    (k19 : PySem.W.keepIn K (.ref f19) = true)
    (a20 : PySem.W.nsIn K mainGlobals "fits" = some (some (.ref f20)))
    (l20 : K.lookup f20 = some ⟨oc20, od20, .func (PySem.W.fnOf "fits" "fits" (defArgs s_fits) (defBody s_fits) (defScope s_fits) .none kV20 dc20 pm20 an20 cd20 ct20), sl20⟩)
    (c20 : PySem.W.codeIn K cd20 "fits" = true)
    (k20 : PySem.W.keepIn K (.ref f20) = true)
    (a21 : PySem.W.nsIn K mainGlobals "_law_take" = some (some (.ref f21)))
    (l21 : K.lookup f21 = some ⟨oc21, od21, .func (PySem.W.fnOf "_law_take" "_law_take" (defArgs s_ftake) (defBody s_ftake) (defScope s_ftake) .none kV21 dc21 pm21 an21 cd21 ct21), sl21⟩)
    (c21 : PySem.W.codeIn K cd21 "_law_take" = true)
    (k21 : PySem.W.keepIn K (.ref f21) = true)
    (a22 : PySem.W.nsIn K mainGlobals "_law_kinds" = some (some (.ref f22)))
    (l22 : K.lookup f22 = some ⟨oc22, od22, .func (PySem.W.fnOf "_law_kinds" "_law_kinds" (defArgs s_fkinds) (defBody s_fkinds) (defScope s_fkinds) .none kV22 dc22 pm22 an22 cd22 ct22), sl22⟩)
    (c22 : PySem.W.codeIn K cd22 "_law_kinds" = true)
    (k22 : PySem.W.keepIn K (.ref f22) = true)
    (a23 : PySem.W.nsIn K mainGlobals "_law_entry" = some (some (.ref f23)))
    (l23 : K.lookup f23 = some ⟨oc23, od23, .func (PySem.W.fnOf "_law_entry" "_law_entry" (defArgs s_fentry) (defBody s_fentry) (defScope s_fentry) .none kV23 dc23 pm23 an23 cd23 ct23), sl23⟩)
    (c23 : PySem.W.codeIn K cd23 "_law_entry" = true)
    (k23 : PySem.W.keepIn K (.ref f23) = true)
    (a24 : PySem.W.nsIn K mainGlobals "_law_web" = some (some (.ref f24)))
    (l24 : K.lookup f24 = some ⟨oc24, od24, .func (PySem.W.fnOf "_law_web" "_law_web" (defArgs s_fweb) (defBody s_fweb) (defScope s_fweb) .none kV24 dc24 pm24 an24 cd24 ct24), sl24⟩)
    (c24 : PySem.W.codeIn K cd24 "_law_web" = true)
    (k24 : PySem.W.keepIn K (.ref f24) = true)
    (a25 : PySem.W.nsIn K mainGlobals "_law_order" = some (some (.ref f25)))
    (l25 : K.lookup f25 = some ⟨oc25, od25, .func (PySem.W.fnOf "_law_order" "_law_order" (defArgs s_forder) (defBody s_forder) (defScope s_forder) .none kV25 dc25 pm25 an25 cd25 ct25), sl25⟩)
    (c25 : PySem.W.codeIn K cd25 "_law_order" = true)
    (k25 : PySem.W.keepIn K (.ref f25) = true)
    (a26 : PySem.W.nsIn K mainGlobals "_law_renamed" = some (some (.ref f26)))
    (l26 : K.lookup f26 = some ⟨oc26, od26, .func (PySem.W.fnOf "_law_renamed" "_law_renamed" (defArgs s_frenamed) (defBody s_frenamed) (defScope s_frenamed) .none kV26 dc26 pm26 an26 cd26 ct26), sl26⟩)
    (c26 : PySem.W.codeIn K cd26 "_law_renamed" = true)
    (k26 : PySem.W.keepIn K (.ref f26) = true)
    (a27 : PySem.W.nsIn K mainGlobals "_law_made" = some (some (.ref f27)))
    (l27 : K.lookup f27 = some ⟨oc27, od27, .func (PySem.W.fnOf "_law_made" "_law_made" (defArgs s_fmade) (defBody s_fmade) (defScope s_fmade) .none kV27 dc27 pm27 an27 cd27 ct27), sl27⟩)
    (c27 : PySem.W.codeIn K cd27 "_law_made" = true)
    (k27 : PySem.W.keepIn K (.ref f27) = true)
    (a28 : PySem.W.nsIn K mainGlobals "_law_changed" = some (some (.ref f28)))
    (l28 : K.lookup f28 = some ⟨oc28, od28, .func (PySem.W.fnOf "_law_changed" "_law_changed" (defArgs s_fchanged) (defBody s_fchanged) (defScope s_fchanged) .none kV28 dc28 pm28 an28 cd28 ct28), sl28⟩)
    (c28 : PySem.W.codeIn K cd28 "_law_changed" = true)
    (k28 : PySem.W.keepIn K (.ref f28) = true)
    (a29 : PySem.W.nsIn K mainGlobals "_law_two" = some (some (.ref f29)))
    (l29 : K.lookup f29 = some ⟨oc29, od29, .func (PySem.W.fnOf "_law_two" "_law_two" (defArgs s_ftwo) (defBody s_ftwo) (defScope s_ftwo) .none kV29 dc29 pm29 an29 cd29 ct29), sl29⟩)
    (c29 : PySem.W.codeIn K cd29 "_law_two" = true)
    (k29 : PySem.W.keepIn K (.ref f29) = true)
    (a30 : PySem.W.nsIn K mainGlobals "_law_rows" = some (some (.ref f30)))
    (l30 : K.lookup f30 = some ⟨oc30, od30, .func (PySem.W.fnOf "_law_rows" "_law_rows" (defArgs s_frows) (defBody s_frows) (defScope s_frows) .none kV30 dc30 pm30 an30 cd30 ct30), sl30⟩)
    (c30 : PySem.W.codeIn K cd30 "_law_rows" = true)
    (k30 : PySem.W.keepIn K (.ref f30) = true)
    (a31 : PySem.W.nsIn K mainGlobals "_law_is_naming" = some (some (.ref f31)))
    (l31 : K.lookup f31 = some ⟨oc31, od31, .func (PySem.W.fnOf "_law_is_naming" "_law_is_naming" (defArgs s_fisnaming) (defBody s_fisnaming) (defScope s_fisnaming) .none kV31 dc31 pm31 an31 cd31 ct31), sl31⟩)
    (c31 : PySem.W.codeIn K cd31 "_law_is_naming" = true)
    (k31 : PySem.W.keepIn K (.ref f31) = true)
    (a32 : PySem.W.nsIn K mainGlobals "_law_is_fit" = some (some (.ref f32)))
    (l32 : K.lookup f32 = some ⟨oc32, od32, .func (PySem.W.fnOf "_law_is_fit" "_law_is_fit" (defArgs s_fisfit) (defBody s_fisfit) (defScope s_fisfit) .none kV32 dc32 pm32 an32 cd32 ct32), sl32⟩)
    (c32 : PySem.W.codeIn K cd32 "_law_is_fit" = true)
    (k32 : PySem.W.keepIn K (.ref f32) = true)
    (a33 : PySem.W.nsIn K mainGlobals "_law_may" = some (some (.ref f33)))
    (l33 : K.lookup f33 = some ⟨oc33, od33, .func (PySem.W.fnOf "_law_may" "_law_may" (defArgs s_fmay) (defBody s_fmay) (defScope s_fmay) .none kV33 dc33 pm33 an33 cd33 ct33), sl33⟩)
    (c33 : PySem.W.codeIn K cd33 "_law_may" = true)
    (k33 : PySem.W.keepIn K (.ref f33) = true)
    (a34 : PySem.W.nsIn K mainGlobals "_law_fitting" = some (some (.ref f34)))
    (l34 : K.lookup f34 = some ⟨oc34, od34, .func (PySem.W.fnOf "_law_fitting" "_law_fitting" (defArgs s_ffitting) (defBody s_ffitting) (defScope s_ffitting) .none kV34 dc34 pm34 an34 cd34 ct34), sl34⟩)
    (c34 : PySem.W.codeIn K cd34 "_law_fitting" = true)
    (k34 : PySem.W.keepIn K (.ref f34) = true)
    (a35 : PySem.W.nsIn K mainGlobals "_law_says" = some (some (.ref f35)))
    (l35 : K.lookup f35 = some ⟨oc35, od35, .func (PySem.W.fnOf "_law_says" "_law_says" (defArgs s_fsays) (defBody s_fsays) (defScope s_fsays) .none kV35 dc35 pm35 an35 cd35 ct35), sl35⟩)
    (c35 : PySem.W.codeIn K cd35 "_law_says" = true)
    (k35 : PySem.W.keepIn K (.ref f35) = true)
    (a36 : PySem.W.nsIn K mainGlobals "_law_odd_naming" = some (some (.ref f36)))
    (l36 : K.lookup f36 = some ⟨oc36, od36, .func (PySem.W.fnOf "_law_odd_naming" "_law_odd_naming" (defArgs s_foddnam) (defBody s_foddnam) (defScope s_foddnam) .none kV36 dc36 pm36 an36 cd36 ct36), sl36⟩)
    (c36 : PySem.W.codeIn K cd36 "_law_odd_naming" = true)
    (k36 : PySem.W.keepIn K (.ref f36) = true)
    (a37 : PySem.W.nsIn K mainGlobals "_law_exchanged" = some (some (.ref f37)))
    (l37 : K.lookup f37 = some ⟨oc37, od37, .func (PySem.W.fnOf "_law_exchanged" "_law_exchanged" (defArgs s_fexchanged) (defBody s_fexchanged) (defScope s_fexchanged) .none kV37 dc37 pm37 an37 cd37 ct37), sl37⟩)
    (c37 : PySem.W.codeIn K cd37 "_law_exchanged" = true)
    (k37 : PySem.W.keepIn K (.ref f37) = true)
    (a38 : PySem.W.nsIn K mainGlobals "law" = some (some (.ref f38)))
    (l38 : K.lookup f38 = some ⟨oc38, od38, .func (PySem.W.fnOf "law" "law" (defArgs s_law) (defBody s_law) (defScope s_law) .none kV38 dc38 pm38 an38 cd38 ct38), sl38⟩)
    (c38 : PySem.W.codeIn K cd38 "law" = true)
    (k38 : PySem.W.keepIn K (.ref f38) = true)
    (a39 : PySem.W.findIn K (.ref cWeb) "__eq__" = some (some (.ref f39)))
    (i39 : PySem.W.isFn K (.ref f39) = true)
    (l39 : K.lookup f39 = some ⟨oc39, od39, .func (PySem.W.fnOf "__eq__" "Web.__eq__" (defArgs s_Weq) (defBody s_Weq) (defScope s_Weq) .none kV39 dc39 pm39 an39 cd39 ct39), sl39⟩)
    (c39 : PySem.W.codeIn K cd39 "Web.__eq__" = true)
    (k39 : PySem.W.keepIn K (.ref f39) = true)
    (a40 : PySem.W.findIn K (.ref cWeb) "__repr__" = some (some (.ref f40)))
    (i40 : PySem.W.isFn K (.ref f40) = true)
    (l40 : K.lookup f40 = some ⟨oc40, od40, .func (PySem.W.fnOf "__repr__" "Web.__repr__" (defArgs s_Wrepr) (defBody s_Wrepr) (defScope s_Wrepr) .none kV40 dc40 pm40 an40 cd40 ct40), sl40⟩)
    (c40 : PySem.W.codeIn K cd40 "Web.__repr__" = true)
    (k40 : PySem.W.keepIn K (.ref f40) = true)
    (z1 : PySem.W.nsIn K mainGlobals "all" = some none)
    (z2 : PySem.W.nsIn K mainGlobals "bool" = some none)
    (z3 : PySem.W.nsIn K mainGlobals "enumerate" = some none)
    (z4 : PySem.W.nsIn K mainGlobals "int" = some none)
    (z5 : PySem.W.nsIn K mainGlobals "isinstance" = some none)
    (z6 : PySem.W.nsIn K mainGlobals "len" = some none)
    (z7 : PySem.W.nsIn K mainGlobals "list" = some none)
    (z8 : PySem.W.nsIn K mainGlobals "max" = some none)
    (z9 : PySem.W.nsIn K mainGlobals "min" = some none)
    (z10 : PySem.W.nsIn K mainGlobals "range" = some none)
    (z11 : PySem.W.nsIn K mainGlobals "repr" = some none)
    (z12 : PySem.W.nsIn K mainGlobals "set" = some none)
    (z13 : PySem.W.nsIn K mainGlobals "sorted" = some none)
    (z14 : PySem.W.nsIn K mainGlobals "tuple" = some none)
    (q_MOST : PySem.W.nsIn K mainGlobals "MOST" = some (some (.int 12 t_MOST)))
    (q_GREATEST : PySem.W.nsIn K mainGlobals "GREATEST" = some (some (.int 1000000000 t_GREATEST)))
    (lT : K.lookup TT = some ⟨cT, oT, .seq #[.ref a0] nT, sT⟩)
    (x1 : PySem.W.plainGet K cWeb Str.empty = true)
    (x2 : PySem.W.hasDictIn K cWeb = true)
    (x3 : PySem.W.plainOver K cWeb = true)
    (x4 : PySem.W.findIn K (.ref cWeb) "__setattr__" = some (some (.builtin "object.__setattr__")))
    (x5 : PySem.W.findIn K (.ref cWeb) "colours" = some none)
    (x6 : PySem.W.findIn K (.ref cWeb) "arrows" = some none)
    (x7 : PySem.W.findIn K (.ref cWeb) "ties" = some none)
    (x8 : PySem.W.findIn K (.ref cWeb) "__ne__" = some (some (.builtin "object.__ne__")))
    (x9 : PySem.W.mroIn K cWeb (.type "object") = some true)
    (y1 : PySem.W.findIn K (.ref cWeb) "__class__" = some (some (.builtin "object.__class__")))
    (y2 : PySem.W.specialIn K (.builtin "object.__class__") "__get__" = some (some (.builtin "getset_descriptor.__get__")))
    (y3 : PySem.W.takesIn K (.builtin "object.__class__") = some true)
    (y4 : PySem.W.kitOne K (.ref cWeb) (.ref cWeb) = some true)
    (d_non : PySem.W.kitOne K (.type "NoneType") (.ref cWeb) = some false)
    (d_bl : PySem.W.kitOne K (.type "bool") (.ref cWeb) = some false)
    (d_int : PySem.W.kitOne K (.type "int") (.ref cWeb) = some false)
    (d_str : PySem.W.kitOne K (.type "str") (.ref cWeb) = some false)
    (d_lst : PySem.W.kitOne K (.type "list") (.ref cWeb) = some false)
    (d_tup : PySem.W.kitOne K (.type "tuple") (.ref cWeb) = some false)
    (d_dct : PySem.W.kitOne K (.type "dict") (.ref cWeb) = some false)
    (x10 : PySem.W.makesIn K cWeb = true)
    (x11 : PySem.W.keepIn K (.ref cWeb) = true)
    (NT : PySem.W.kitOne K (.ref cWeb) (.type "tuple") = some false) :
    ∃ fd : FuncData, (∀ (s : Shared) (v : Value), BindsTo s fd ⟨[v], []⟩ [("_law_script", v)]) ∧ ∀ base : Heap, K.In base → base.Ns mainGlobals mg → FnOk l.prog w K mg base CX0 12 fa fd ["_law_script"] (sp_law K) := by
  have e := hfa.symm.trans (PySem.W.mg_of X G a38)
  cases e
  have T : Txt mg := ⟨PySem.W.mg_none_of X G z1, PySem.W.mg_none_of X G z2, PySem.W.mg_none_of X G z3, PySem.W.mg_none_of X G z4, PySem.W.mg_none_of X G z5, PySem.W.mg_none_of X G z6, PySem.W.mg_none_of X G z7, PySem.W.mg_none_of X G z8, PySem.W.mg_none_of X G z9, PySem.W.mg_none_of X G z10, PySem.W.mg_none_of X G z11, PySem.W.mg_none_of X G z12, PySem.W.mg_none_of X G z13, PySem.W.mg_none_of X G z14, ⟨_, PySem.W.mg_of X G q_MOST⟩, ⟨_, PySem.W.mg_of X G q_GREATEST⟩⟩
  have W : WebC K mg cWeb := ⟨⟨x1, x2, x3, x4⟩, x5, x6, x7, x8, x9, y1, y2, y3, y4, fun k => (match k with | .non => d_non | .bl => d_bl | .int => d_int | .str => d_str | .lst => d_lst | .tup => d_tup | .dct => d_dct), PySem.W.mg_of X G m_Web⟩
  have F1 := fun_mk (st := s_iswhole) l1 c1 k1
  have b1 := F1.binds (ps := ["thing"]) fun _ _ _ _ _ _ us hl => match us, hl with | [_], _ => rfl
  have F2 := fun_mk (st := s_isbetween) l2 c2 k2
  have b2 := F2.binds (ps := ["thing", "low", "high"]) fun _ _ _ _ _ _ us hl => match us, hl with | [_, _, _], _ => rfl
  have F3 := fun_mk (st := s_eachonce) l3 c3 k3
  have b3 := F3.binds (ps := ["things"]) fun _ _ _ _ _ _ us hl => match us, hl with | [_], _ => rfl
  have F4 := fun_mk (st := s_isnaming) l4 c4 k4
  have b4 := F4.binds (ps := ["many", "thing"]) fun _ _ _ _ _ _ us hl => match us, hl with | [_, _], _ => rfl
  have F5 := fun_mk (st := s_back) l5 c5 k5
  have b5 := F5.binds (ps := ["naming"]) fun _ _ _ _ _ _ us hl => match us, hl with | [_], _ => rfl
  have F6 := fun_mk (st := s_carriedrow) l6 c6 k6
  have b6 := F6.binds (ps := ["row", "naming"]) fun _ _ _ _ _ _ us hl => match us, hl with | [_, _], _ => rfl
  have F7 := fun_mk (st := s_iscolour) l7 c7 k7
  have b7 := F7.binds (ps := ["thing"]) fun _ _ _ _ _ _ us hl => match us, hl with | [_], _ => rfl
  have F8 := fun_mk (st := s_ismark) l8 c8 k8
  have b8 := F8.binds (ps := ["thing"]) fun _ _ _ _ _ _ us hl => match us, hl with | [_], _ => rfl
  have F9 := fun_mk (st := s_iscorner) l9 c9 k9
  have b9 := F9.binds (ps := ["many", "thing"]) fun _ _ _ _ _ _ us hl => match us, hl with | [_, _], _ => rfl
  have F10 := fun_mk (st := s_arecolours) l10 c10 k10
  have b10 := F10.binds (ps := ["thing"]) fun _ _ _ _ _ _ us hl => match us, hl with | [_], _ => rfl
  have F11 := fun_mk (st := s_isarrow) l11 c11 k11
  have b11 := F11.binds (ps := ["many", "thing"]) fun _ _ _ _ _ _ us hl => match us, hl with | [_, _], _ => rfl
  have F12 := fun_mk (st := s_marksof) l12 c12 k12
  have b12 := F12.binds (ps := ["colours", "arrows"]) fun _ _ _ _ _ _ us hl => match us, hl with | [_, _], _ => rfl
  have F13 := fun_mk (st := s_tiesof) l13 c13 k13
  have b13 := F13.binds (ps := ["many", "marks"]) fun _ _ _ _ _ _ us hl => match us, hl with | [_, _], _ => rfl
  have F14 : FunD K "__init__" "Web.__init__" s_Winit (.ref TT) f14 _ := ⟨⟨oc14, od14, kV14, dc14, pm14, an14, cd14, ct14, sl14, rfl, l14, c14⟩⟩
  have F15 := fun_mk (st := s_Wlen) l15 c15 k15
  have b15 := F15.binds (ps := ["self"]) fun _ _ _ _ _ _ us hl => match us, hl with | [_], _ => rfl
  have F16 := fun_mk (st := s_renamed) l16 c16 k16
  have b16 := F16.binds (ps := ["web", "naming"]) fun _ _ _ _ _ _ us hl => match us, hl with | [_, _], _ => rfl
  have F17 := fun_mk (st := s_leads) l17 c17 k17
  have b17 := F17.binds (ps := ["web", "naming", "other"]) fun _ _ _ _ _ _ us hl => match us, hl with | [_, _, _], _ => rfl
  have F18 := fun_mk (st := s_isrow) l18 c18 k18
  have b18 := F18.binds (ps := ["web", "thing"]) fun _ _ _ _ _ _ us hl => match us, hl with | [_, _], _ => rfl
  have F19 := fun_mk (st := s_ckrow) l19 c19 k19
  have b19 := F19.binds (ps := ["web", "thing"]) fun _ _ _ _ _ _ us hl => match us, hl with | [_, _], _ => rfl
  have F20 := fun_mk (st := s_fits) l20 c20 k20
  have b20 := F20.binds (ps := ["web", "row", "other", "other_row", "thing"]) fun _ _ _ _ _ _ us hl => match us, hl with | [_, _, _, _, _], _ => rfl
  have F21 := fun_mk (st := s_ftake) l21 c21 k21
  have b21 := F21.binds (ps := ["_law_state", "_law_below"]) fun _ _ _ _ _ _ us hl => match us, hl with | [_, _], _ => rfl
  have F22 := fun_mk (st := s_fkinds) l22 c22 k22
  have b22 := F22.binds (ps := ["_law_state"]) fun _ _ _ _ _ _ us hl => match us, hl with | [_], _ => rfl
  have F23 := fun_mk (st := s_fentry) l23 c23 k23
  have b23 := F23.binds (ps := ["_law_state", "_law_choice", "_law_many", "_law_a", "_law_b", "_law_drawn"]) fun _ _ _ _ _ _ us hl => match us, hl with | [_, _, _, _, _, _], _ => rfl
  have F24 := fun_mk (st := s_fweb) l24 c24 k24
  have b24 := F24.binds (ps := ["_law_state", "_law_choice", "_law_many", "_law_kinds_here"]) fun _ _ _ _ _ _ us hl => match us, hl with | [_, _, _, _], _ => rfl
  have F25 := fun_mk (st := s_forder) l25 c25 k25
  have b25 := F25.binds (ps := ["_law_state", "_law_many"]) fun _ _ _ _ _ _ us hl => match us, hl with | [_, _], _ => rfl
  have F26 := fun_mk (st := s_frenamed) l26 c26 k26
  have b26 := F26.binds (ps := ["_law_one", "_law_naming"]) fun _ _ _ _ _ _ us hl => match us, hl with | [_, _], _ => rfl
  have F27 := fun_mk (st := s_fmade) l27 c27 k27
  have b27 := F27.binds (ps := ["_law_one"]) fun _ _ _ _ _ _ us hl => match us, hl with | [_], _ => rfl
  have F28 := fun_mk (st := s_fchanged) l28 c28 k28
  have b28 := F28.binds (ps := ["_law_state", "_law_one"]) fun _ _ _ _ _ _ us hl => match us, hl with | [_, _], _ => rfl
  have F29 := fun_mk (st := s_ftwo) l29 c29 k29
  have b29 := F29.binds (ps := ["_law_state", "_law_most"]) fun _ _ _ _ _ _ us hl => match us, hl with | [_, _], _ => rfl
  have F30 := fun_mk (st := s_frows) l30 c30 k30
  have b30 := F30.binds (ps := ["_law_state", "_law_one", "_law_other", "_law_naming"]) fun _ _ _ _ _ _ us hl => match us, hl with | [_, _, _, _], _ => rfl
  have F31 := fun_mk (st := s_fisnaming) l31 c31 k31
  have b31 := F31.binds (ps := ["_law_many", "_law_thing"]) fun _ _ _ _ _ _ us hl => match us, hl with | [_, _], _ => rfl
  have F32 := fun_mk (st := s_fisfit) l32 c32 k32
  have b32 := F32.binds (ps := ["_law_one", "_law_row", "_law_other", "_law_other_row", "_law_thing"]) fun _ _ _ _ _ _ us hl => match us, hl with | [_, _, _, _, _], _ => rfl
  have F33 := fun_mk (st := s_fmay) l33 c33 k33
  have b33 := F33.binds (ps := ["_law_one", "_law_row", "_law_other", "_law_other_row", "_law_some", "_law_goal"]) fun _ _ _ _ _ _ us hl => match us, hl with | [_, _, _, _, _, _], _ => rfl
  have F34 := fun_mk (st := s_ffitting) l34 c34 k34
  have b34 := F34.binds (ps := ["_law_one", "_law_row", "_law_other", "_law_other_row"]) fun _ _ _ _ _ _ us hl => match us, hl with | [_, _, _, _], _ => rfl
  have F35 := fun_mk (st := s_fsays) l35 c35 k35
  have b35 := F35.binds (ps := ["_law_found", "_law_due"]) fun _ _ _ _ _ _ us hl => match us, hl with | [_, _], _ => rfl
  have F36 := fun_mk (st := s_foddnam) l36 c36 k36
  have b36 := F36.binds (ps := ["_law_state", "_law_naming"]) fun _ _ _ _ _ _ us hl => match us, hl with | [_, _], _ => rfl
  have F37 := fun_mk (st := s_fexchanged) l37 c37 k37
  have b37 := F37.binds (ps := ["_law_state", "_law_naming"]) fun _ _ _ _ _ _ us hl => match us, hl with | [_, _], _ => rfl
  have F38 := fun_mk (st := s_law) l38 c38 k38
  have F39 := fun_mk (st := s_Weq) l39 c39 k39
  have b39 := F39.binds (ps := ["self", "other"]) fun _ _ _ _ _ _ us hl => match us, hl with | [_, _], _ => rfl
  have F40 := fun_mk (st := s_Wrepr) l40 c40 k40
  have b40 := F40.binds (ps := ["self"]) fun _ _ _ _ _ _ us hl => match us, hl with | [_], _ => rfl
  refine ⟨PySem.W.fnOf "law" "law" (defArgs s_law) (defBody s_law) (defScope s_law) .none kV38 dc38 pm38 an38 cd38 ct38, fun s v => .of_eq rfl, fun base kb nb => ?_⟩
  have G_iswhole : Fn l.prog w K mg base "is_whole" 1 ["thing"] sp_iswhole := ⟨f1, _, PySem.W.mg_of X G a1, k1, b1, ok_iswhole F1 T ⟩
  have G_isbetween : Fn l.prog w K mg base "is_between" 2 ["thing", "low", "high"] sp_isbetween := ⟨f2, _, PySem.W.mg_of X G a2, k2, b2, ok_isbetween F2 T G_iswhole⟩
  have G_iscolour : Fn l.prog w K mg base "is_colour" 3 ["thing"] (sp_is1 0 1000000000) := ⟨f7, _, PySem.W.mg_of X G a7, k7, b7, ok_iscolour F7 T G_isbetween⟩
  have G_ismark : Fn l.prog w K mg base "is_mark" 3 ["thing"] (sp_is1 1 1000000000) := ⟨f8, _, PySem.W.mg_of X G a8, k8, b8, ok_ismark F8 T G_isbetween⟩
  have G_iscorner : Fn l.prog w K mg base "is_corner" 3 ["many", "thing"] sp_iscorner := ⟨f9, _, PySem.W.mg_of X G a9, k9, b9, ok_iscorner F9 T G_isbetween⟩
  have G_arecolours : Fn l.prog w K mg base "are_colours" 4 ["thing"] (sp_arecolours K) := ⟨f10, _, PySem.W.mg_of X G a10, k10, b10, ok_arecolours F10 T G_iscolour⟩
  have G_isarrow : Fn l.prog w K mg base "is_arrow" 4 ["many", "thing"] sp_isarrow := ⟨f11, _, PySem.W.mg_of X G a11, k11, b11, ok_isarrow F11 T G_iscorner G_ismark⟩
  have G_marksof : Fn l.prog w K mg base "marks_of" 5 ["colours", "arrows"] (sp_marksof K) := ⟨f12, _, PySem.W.mg_of X G a12, k12, b12, ok_marksof F12 T G_arecolours G_isarrow⟩
  have G_tiesof : Fn l.prog w K mg base "ties_of" 1 ["many", "marks"] sp_tiesof := ⟨f13, _, PySem.W.mg_of X G a13, k13, b13, ok_tiesof F13 T ⟩
  have okI := ok_WinitD (P := l.prog) (w := w) (base := base) F14 T W G_marksof G_tiesof
  have mk : Mk K cWeb f14 := ⟨x10, a14, i14, x11⟩
  have G_Web : MkF l.prog w K mg base "Web" cWeb 6 ["self", "colours", "arrows"] [] (sp_Winit K cWeb) := ⟨f14, _, mk, PySem.W.mg_of X G m_Web, binds3 lT, okI⟩
  have G_Wlen : Mt l.prog w K mg base cWeb "__len__" 1 ["self"] (sp_Wlen cWeb) := ⟨f15, _, ⟨a15, i15, k15⟩, b15, ok_Wlen F15 T W⟩
  have G_isrow : Fn l.prog w K mg base "is_row" 4 ["web", "thing"] (sp_isrow cWeb) := ⟨f18, _, PySem.W.mg_of X G a18, k18, b18, ok_isrow F18 T G_iscorner G_Wlen⟩
  have G_ckrow : Fn l.prog w K mg base "check_row" 5 ["web", "thing"] (sp_ckrow cWeb) := ⟨f19, _, PySem.W.mg_of X G a19, k19, b19, ok_ckrow F19 T G_isrow⟩
  have G_back : Fn l.prog w K mg base "back" 1 ["naming"] sp_back := ⟨f5, _, PySem.W.mg_of X G a5, k5, b5, ok_back F5 T ⟩
  have G_Wrepr : Mt l.prog w K mg base cWeb "__repr__" 1 ["self"] (sp_Wrepr cWeb) := ⟨f40, _, ⟨a40, i40, k40⟩, b40, ok_Wrepr F40 T W⟩
  have G_Weq : Mt l.prog w K mg base cWeb "__eq__" 1 ["self", "other"] (sp_Weq cWeb) := ⟨f39, _, ⟨a39, i39, k39⟩, b39, ok_Weq F39 T W⟩
  have G_eachonce : Fn l.prog w K mg base "has_each_once" 2 ["things"] sp_eachonce := ⟨f3, _, PySem.W.mg_of X G a3, k3, b3, ok_eachonce F3 T (iswhole2 G_iswhole)⟩
  have G_isnaming : Fn l.prog w K mg base "is_naming" 3 ["many", "thing"] (sp_isnaming cWeb) := ⟨f4, _, PySem.W.mg_of X G a4, k4, b4, ok_isnaming F4 T W NT G_eachonce⟩
  have G_renamed : Fn l.prog w K mg base "renamed" 8 ["web", "naming"] (sp_renamed cWeb) := ⟨f16, _, PySem.W.mg_of X G a16, k16, b16, ok_renamed F16 T W G_isnaming G_back G_Wlen G_Web⟩
  have G_leads : Fn l.prog w K mg base "leads" 9 ["web", "naming", "other"] (sp_leads cWeb) := ⟨f17, _, PySem.W.mg_of X G a17, k17, b17, ok_leads F17 T W G_isnaming G_renamed G_Wlen G_Weq⟩
  have G_carriedrow : Fn l.prog w K mg base "carried_row" 1 ["row", "naming"] sp_carriedrow := ⟨f6, _, PySem.W.mg_of X G a6, k6, b6, ok_carriedrow F6 T ⟩
  have G_fits : Fn l.prog w K mg base "fits" 10 ["web", "row", "other", "other_row", "thing"] (sp_fits cWeb) := ⟨f20, _, PySem.W.mg_of X G a20, k20, b20, ok_fits F20 T G_ckrow G_leads G_carriedrow⟩
  have G_ftake : Fn l.prog w K mg base "_law_take" 1 ["_law_state", "_law_below"] (sp_ftake K) := ⟨f21, _, PySem.W.mg_of X G a21, k21, b21, ok_ftake F21 T ⟩
  have G_fkinds : Fn l.prog w K mg base "_law_kinds" 2 ["_law_state"] (sp_fkinds K) := ⟨f22, _, PySem.W.mg_of X G a22, k22, b22, ok_fkinds F22 T G_ftake⟩
  have G_fentry : Fn l.prog w K mg base "_law_entry" 2 ["_law_state", "_law_choice", "_law_many", "_law_a", "_law_b", "_law_drawn"] (sp_fentry K) := ⟨f23, _, PySem.W.mg_of X G a23, k23, b23, ok_fentry F23 T G_ftake⟩
  have G_fweb : Fn l.prog w K mg base "_law_web" 3 ["_law_state", "_law_choice", "_law_many", "_law_kinds_here"] (sp_fweb K) := ⟨f24, _, PySem.W.mg_of X G a24, k24, b24, ok_fweb F24 T G_ftake G_fentry⟩
  have G_forder : Fn l.prog w K mg base "_law_order" 2 ["_law_state", "_law_many"] (sp_forder K) := ⟨f25, _, PySem.W.mg_of X G a25, k25, b25, ok_forder F25 T G_ftake⟩
  have G_fmade : Fn l.prog w K mg base "_law_made" 8 ["_law_one"] (sp_fmade cWeb) := ⟨f27, _, PySem.W.mg_of X G a27, k27, b27, ok_fmade F27 T W G_Web⟩
  have G_frenamed : Fn l.prog w K mg base "_law_renamed" 1 ["_law_one", "_law_naming"] sp_frenamed := ⟨f26, _, PySem.W.mg_of X G a26, k26, b26, ok_frenamed F26 T ⟩
  have G_fchanged : Fn l.prog w K mg base "_law_changed" 2 ["_law_state", "_law_one"] (sp_fchanged K) := ⟨f28, _, PySem.W.mg_of X G a28, k28, b28, ok_fchanged F28 T G_ftake⟩
  have G_ftwo : Fn l.prog w K mg base "_law_two" 4 ["_law_state", "_law_most"] (sp_ftwo K) := ⟨f29, _, PySem.W.mg_of X G a29, k29, b29, ok_ftwo F29 T G_ftake G_fkinds G_fweb G_fchanged G_forder G_frenamed⟩
  have G_frows : Fn l.prog w K mg base "_law_rows" 3 ["_law_state", "_law_one", "_law_other", "_law_naming"] (sp_frows K) := ⟨f30, _, PySem.W.mg_of X G a30, k30, b30, ok_frows F30 T G_ftake G_forder⟩
  have G_fisnaming : Fn l.prog w K mg base "_law_is_naming" 1 ["_law_many", "_law_thing"] (sp_hisnaming cWeb) := ⟨f31, _, PySem.W.mg_of X G a31, k31, b31, ok_fisnaming F31 T W NT⟩
  have G_fisfit : Fn l.prog w K mg base "_law_is_fit" 2 ["_law_one", "_law_row", "_law_other", "_law_other_row", "_law_thing"] (sp_hisfit cWeb) := ⟨f32, _, PySem.W.mg_of X G a32, k32, b32, ok_fisfit F32 T G_frenamed G_fisnaming⟩
  have G_fmay : Fn l.prog w K mg base "_law_may" 1 ["_law_one", "_law_row", "_law_other", "_law_other_row", "_law_some", "_law_goal"] sp_fmay := ⟨f33, _, PySem.W.mg_of X G a33, k33, b33, ok_fmay F33 T ⟩
  have G_ffitting : Fn l.prog w K mg base "_law_fitting" 2 ["_law_one", "_law_row", "_law_other", "_law_other_row"] sp_ffitting := ⟨f34, _, PySem.W.mg_of X G a34, k34, b34, ok_ffitting F34 T G_fmay⟩
  have G_fsays : Fn l.prog w K mg base "_law_says" 1 ["_law_found", "_law_due"] sp_fsays := ⟨f35, _, PySem.W.mg_of X G a35, k35, b35, ok_fsays F35 T ⟩
  have G_foddnam : Fn l.prog w K mg base "_law_odd_naming" 8 ["_law_state", "_law_naming"] (sp_foddnam K cWeb) := ⟨f36, _, PySem.W.mg_of X G a36, k36, b36, ok_foddnam F36 T W G_Web G_ftake⟩
  have G_fexchanged : Fn l.prog w K mg base "_law_exchanged" 2 ["_law_state", "_law_naming"] (sp_fexchanged K) := ⟨f37, _, PySem.W.mg_of X G a37, k37, b37, ok_fexchanged F37 T G_ftake⟩
  exact ok_law F38 T G_ftwo G_frows G_ffitting G_fexchanged G_forder G_foddnam G_fmade G_fisfit G_fsays G_fits G_Wrepr G_Weq
theorem walk {l : PySem.W.OpenLaw} {q : Program} {loose : List Str} {XP : (Str → Option Value) → Heap → Prop} {YP : World → Heap → Prop} {d : DefRec} {K : Params → PySem.W.Frag} (hn : l.most = some 63) (hdf : d.params.defaults = [])
    (hY : ∀ (w : World) (h : Heap), YP w h → (K w.params).In h)
    (F : ∀ (w : World) (mg : Str → Option Value) (fa : Addr) (h : Heap), (K w.params).In h → h.Ns mainGlobals mg → mg d.name = some (.ref fa) →
      ∃ fd : FuncData, (∀ (s : Shared) (u : Value), BindsTo s fd ⟨[u], []⟩ [("_law_script", u)]) ∧ ∀ base : Heap, (K w.params).In base → base.Ns mainGlobals mg → FnOk l.prog w (K w.params) mg base CX0 12 fa fd ["_law_script"] (sp_law (K w.params))) :
    PySem.W.WalkO q loose XP YP l.row.toRowW d [] (fun f vs => PySem.call f vs) :=
  L2.walk_of (n := 63) (k := 12) (x := "_law_script") (CX := fun _ => CX0) (sp := fun w => sp_law (K w.params)) hn (by decide) hdf ⟨rfl, by decide, by decide, rfl⟩ hY F (fun _ _ a ns hl _ hS => ⟨a, ns, rfl, hS, hl, fun _ => rfl⟩) fun _ _ _ _ _ z => z
end Kx
open PySem PySem.W PyProof.Rows
set_option maxRecDepth 100000 in
set_option maxHeartbeats 0 in
theorem PySem.Challenge.cw_likewebs_k31_namings_that_fit_holds : PySem.Challenge.rw_likewebs_k31_namings_that_fit.Holds := by
  w_on; o_law; k_head; (case hw => w_witness2)
  k_fill
  refine Kx.walk (l := PySem.Challenge.rw_likewebs_k31_namings_that_fit) rfl rfl (fun w h Y => PySem.W.kIn_of Y) ?F
  case F =>
    intro w mg fa h KX G hmg
    refine' Kx.all_mk KX G hmg ?m_Web ?a1 ?l1 ?c1 ?k1 ?a2 ?l2 ?c2 ?k2 ?a3 ?l3 ?c3 ?k3 ?a4 ?l4 ?c4 ?k4 ?a5 ?l5 ?c5 ?k5 ?a6 ?l6 ?c6 ?k6 ?a7 ?l7 ?c7 ?k7 ?a8 ?l8 ?c8 ?k8 ?a9 ?l9 ?c9 ?k9 ?a10 ?l10 ?c10 ?k10 ?a11 ?l11 ?c11 ?k11 ?a12 ?l12 ?c12 ?k12 ?a13 ?l13 ?c13 ?k13 ?a14 ?i14 ?l14 ?c14 ?k14 ?a15 ?i15 ?l15 ?c15 ?k15 ?a16 ?l16 ?c16 ?k16 ?a17 ?l17 ?c17 ?k17 ?a18 ?l18 ?c18 ?k18 ?a19 ?l19 ?c19 ?k19 ?a20 ?l20 ?c20 ?k20 ?a21 ?l21 ?c21 ?k21 ?a22 ?l22 ?c22 ?k22 ?a23 ?l23 ?c23 ?k23 ?a24 ?l24 ?c24 ?k24 ?a25 ?l25 ?c25 ?k25 ?a26 ?l26 ?c26 ?k26 ?a27 ?l27 ?c27 ?k27 ?a28 ?l28 ?c28 ?k28 ?a29 ?l29 ?c29 ?k29 ?a30 ?l30 ?c30 ?k30 ?a31 ?l31 ?c31 ?k31 ?a32 ?l32 ?c32 ?k32 ?a33 ?l33 ?c33 ?k33 ?a34 ?l34 ?c34 ?k34 ?a35 ?l35 ?c35 ?k35 ?a36 ?l36 ?c36 ?k36 ?a37 ?l37 ?c37 ?k37 ?a38 ?l38 ?c38 ?k38 ?a39 ?i39 ?l39 ?c39 ?k39 ?a40 ?i40 ?l40 ?c40 ?k40 ?z1 ?z2 ?z3 ?z4 ?z5 ?z6 ?z7 ?z8 ?z9 ?z10 ?z11 ?z12 ?z13 ?z14 ?q_MOST ?q_GREATEST ?lT ?x1 ?x2 ?x3 ?x4 ?x5 ?x6 ?x7 ?x8 ?x9 ?y1 ?y2 ?y3 ?y4 ?d_non ?d_bl ?d_int ?d_str ?d_lst ?d_tup ?d_dct ?x10 ?x11 ?NT
    (case m_Web => k_is)
    (case a1 => k_is)
    (case l1 => k_is)
    (case c1 => k_is)
    (case k1 => k_is)
    (case a2 => k_is)
    (case l2 => k_is)
    (case c2 => k_is)
    (case k2 => k_is)
    (case a3 => k_is)
    (case l3 => k_is)
    (case c3 => k_is)
    (case k3 => k_is)
    (case a4 => k_is)
    (case l4 => k_is)
    (case c4 => k_is)
    (case k4 => k_is)
    (case a5 => k_is)
    (case l5 => k_is)
    (case c5 => k_is)
    (case k5 => k_is)
    (case a6 => k_is)
    (case l6 => k_is)
    (case c6 => k_is)
    (case k6 => k_is)
    (case a7 => k_is)
    (case l7 => k_is)
    (case c7 => k_is)
    (case k7 => k_is)
    (case a8 => k_is)
    (case l8 => k_is)
    (case c8 => k_is)
    (case k8 => k_is)
    (case a9 => k_is)
    (case l9 => k_is)
    (case c9 => k_is)
    (case k9 => k_is)
    (case a10 => k_is)
    (case l10 => k_is)
    (case c10 => k_is)
    (case k10 => k_is)
    (case a11 => k_is)
    (case l11 => k_is)
    (case c11 => k_is)
    (case k11 => k_is)
    (case a12 => k_is)
    (case l12 => k_is)
    (case c12 => k_is)
    (case k12 => k_is)
    (case a13 => k_is)
    (case l13 => k_is)
    (case c13 => k_is)
    (case k13 => k_is)
    (case a14 => k_is)
    (case i14 => k_is)
    (case l14 => k_is)
    (case c14 => k_is)
    (case k14 => k_is)
    (case a15 => k_is)
    (case i15 => k_is)
    (case l15 => k_is)
    (case c15 => k_is)
    (case k15 => k_is)
    (case a16 => k_is)
    (case l16 => k_is)
    (case c16 => k_is)
    (case k16 => k_is)
    (case a17 => k_is)
    (case l17 => k_is)
    (case c17 => k_is)
    (case k17 => k_is)
    (case a18 => k_is)
    (case l18 => k_is)
    (case c18 => k_is)
    (case k18 => k_is)
    (case a19 => k_is)
    (case l19 => k_is)
    (case c19 => k_is)
    (case k19 => k_is)
    (case a20 => k_is)
    (case l20 => k_is)
    (case c20 => k_is)
    (case k20 => k_is)
    (case a21 => k_is)
    (case l21 => k_is)
    (case c21 => k_is)
    (case k21 => k_is)
    (case a22 => k_is)
    (case l22 => k_is)
    (case c22 => k_is)
    (case k22 => k_is)
    (case a23 => k_is)
    (case l23 => k_is)
    (case c23 => k_is)
    (case k23 => k_is)
    (case a24 => k_is)
    (case l24 => k_is)
    (case c24 => k_is)
    (case k24 => k_is)
    (case a25 => k_is)
    (case l25 => k_is)
    (case c25 => k_is)
    (case k25 => k_is)
    (case a26 => k_is)
    (case l26 => k_is)
    (case c26 => k_is)
    (case k26 => k_is)
    (case a27 => k_is)
    (case l27 => k_is)
    (case c27 => k_is)
    (case k27 => k_is)
    (case a28 => k_is)
    (case l28 => k_is)
    (case c28 => k_is)
    (case k28 => k_is)
    (case a29 => k_is)
    (case l29 => k_is)
    (case c29 => k_is)
    (case k29 => k_is)
    (case a30 => k_is)
    (case l30 => k_is)
    (case c30 => k_is)
    (case k30 => k_is)
    (case a31 => k_is)
    (case l31 => k_is)
    (case c31 => k_is)
    (case k31 => k_is)
    (case a32 => k_is)
    (case l32 => k_is)
    (case c32 => k_is)
    (case k32 => k_is)
    (case a33 => k_is)
    (case l33 => k_is)
    (case c33 => k_is)
    (case k33 => k_is)
    (case a34 => k_is)
    (case l34 => k_is)
    (case c34 => k_is)
    (case k34 => k_is)
    (case a35 => k_is)
    (case l35 => k_is)
    (case c35 => k_is)
    (case k35 => k_is)
    (case a36 => k_is)
    (case l36 => k_is)
    (case c36 => k_is)
    (case k36 => k_is)
    (case a37 => k_is)
    (case l37 => k_is)
    (case c37 => k_is)
    (case k37 => k_is)
    (case a38 => k_is)
    (case l38 => k_is)
    (case c38 => k_is)
    (case k38 => k_is)
    (case a39 => k_is)
    (case i39 => k_is)
    (case l39 => k_is)
    (case c39 => k_is)
    (case k39 => k_is)
    (case a40 => k_is)
    (case i40 => k_is)
    (case l40 => k_is)
    (case c40 => k_is)
    (case k40 => k_is)
    (case z1 => k_is)
    (case z2 => k_is)
    (case z3 => k_is)
    (case z4 => k_is)
    (case z5 => k_is)
    (case z6 => k_is)
    (case z7 => k_is)
    (case z8 => k_is)
    (case z9 => k_is)
    (case z10 => k_is)
    (case z11 => k_is)
    (case z12 => k_is)
    (case z13 => k_is)
    (case z14 => k_is)
    (case q_MOST => k_is)
    (case q_GREATEST => k_is)
    (case lT => k_is)
    (case x1 => k_is)
    (case x2 => k_is)
    (case x3 => k_is)
    (case x4 => k_is)
    (case x5 => k_is)
    (case x6 => k_is)
    (case x7 => k_is)
    (case x8 => k_is)
    (case x9 => k_is)
    (case y1 => k_is)
    (case y2 => k_is)
    (case y3 => k_is)
    (case y4 => kit_is)
    (case d_non => kit_is)
    (case d_bl => kit_is)
    (case d_int => kit_is)
    (case d_str => kit_is)
    (case d_lst => kit_is)
    (case d_tup => kit_is)
    (case d_dct => kit_is)
    (case x10 => k_is)
    (case x11 => k_is)
    (case NT => kit_is)
