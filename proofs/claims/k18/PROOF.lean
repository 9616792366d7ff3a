import PyProof.Rows.All
import Wide.All
import OpenK.AllK
import Wide.FinOn
import Lean
import PyProof.EqAt
import PyProof.EqKinds
import PyProof.TupleCall
import PyProof.ZipIter
import PyProof.NeKinds
import PyProof.SeqI3
import PyProof.MaxThree
import PyProof.CompUse
import PyProof.EnumMake
import PyProof.Draws
import PyProof.EnumFor
import PyProof.Rows.EnumRows
import PyProof.DictFindH
import PyProof.DictRoadsH
import PyProof.TupleKey
import PyProof.DictWalks
import PyProof.AttrMissHeap
import KE.KDictOf
import PyProof.Rows.SortRuns
import KE.KSortTup
import KE.KDictList
import PySem.Challenge.RW_millpath_k18_marks_and_ways
set_option Elab.async false
set_option linter.all false
set_option maxRecDepth 100000
/-! THE HAND LAYER, for ints, bools, texts, own classes, LISTS and tuples (index, slices, in, append, pop ..), calls, loops. Paste it whole ahead of your own text; what your proof does not reach may be deleted. -/
namespace L2
open PySem PySem.Spec PyProof.Rows

/-- a key: an int or a str -/
abbrev Key := Sum Int Str
def keyIs : Key → Value → Bool
  | .inl k, v => Value.isInt k v
  | .inr x, v => Value.isStrOf x v
def keyH (w : World) : Key → Int
  | .inl k => hashInt k
  | .inr x => hashStr w x
theorem keyIs_shape : ∀ {k : Key} {v : Value}, keyIs k v = true → (∃ i t, k = Sum.inl i ∧ v = Value.int i t) ∨ (∃ x t, k = Sum.inr x ∧ v = Value.str x t)
  | .inl i, v, h => by
    obtain ⟨t, e⟩ := Value.isInt_shape (k := i) (v := v) h
    exact .inl ⟨i, t, rfl, e⟩
  | .inr x, v, h => by
    obtain ⟨t, e⟩ := Value.isStrOf_shape (x := x) (v := v) h
    exact .inr ⟨x, t, rfl, e⟩
theorem keyIs_int (i : Int) (t : Tok) : keyIs (.inl i) (.int i t) = true := by simp [keyIs, Value.isInt]
theorem keyIs_str (x : Str) (t : Tok) : keyIs (.inr x) (.str x t) = true := by simp [keyIs, Value.isStrOf]
theorem key_ll (a b : Int) : decide ((Sum.inl a : Key) = Sum.inl b) = (a == b) := by
  by_cases e : a = b
  · subst e; simp
  · have h : ¬ (Sum.inl a : Key) = Sum.inl b := fun q => e (Sum.inl.inj q)
    rw [decide_eq_false h]
    exact (beq_eq_false_iff_ne.mpr e).symm
theorem key_rr (a b : Str) : decide ((Sum.inr a : Key) = Sum.inr b) = decide (a = b) := by
  by_cases e : a = b
  · subst e; simp
  · have h : ¬ (Sum.inr a : Key) = Sum.inr b := fun q => e (Sum.inr.inj q)
    rw [decide_eq_false h, decide_eq_false e]
theorem key_lr (a : Int) (b : Str) : decide ((Sum.inl a : Key) = Sum.inr b) = false := decide_eq_false (fun q => nomatch q)
theorem key_rl (a : Str) (b : Int) : decide ((Sum.inr a : Key) = Sum.inl b) = false := decide_eq_false (fun q => nomatch q)

def mixKind (prog : Program) (w : World) : PySem.KeyKind prog w Key where
  is := keyIs
  hash := keyH w
  inj := fun v a b ha hb => by
    rcases keyIs_shape ha with ⟨i, t, rfl, rfl⟩ | ⟨x, t, rfl, rfl⟩
    · rcases keyIs_shape hb with ⟨j, u, rfl, e⟩ | ⟨y, u, rfl, e⟩
      · injection e with e1 _; rw [e1]
      · exact nomatch e
    · rcases keyIs_shape hb with ⟨j, u, rfl, e⟩ | ⟨y, u, rfl, e⟩
      · exact nomatch e
      · injection e with e1 _; rw [e1]
  byValue := fun k v h => by
    rcases keyIs_shape h with ⟨i, t, rfl, rfl⟩ | ⟨x, t, rfl, rfl⟩ <;> rfl
  pyHash := fun hv h => by
    rcases keyIs_shape hv with ⟨i, t, rfl, rfl⟩ | ⟨x, t, rfl, rfl⟩
    · exact wpAny_pyHash_int h
    · exact wpAny_pyHash_str h
  eqBool := fun hu hv h => by
    rcases keyIs_shape hu with ⟨i, t, rfl, rfl⟩ | ⟨x, t, rfl, rfl⟩
    · rcases keyIs_shape hv with ⟨j, u, rfl, rfl⟩ | ⟨y, u, rfl, rfl⟩
      · rw [key_ll] at h; exact wpAny_eqBool_int h
      · rw [key_lr] at h; exact SeqAt.EqAt.int_str i t y u _ _ _ _ h
    · rcases keyIs_shape hv with ⟨j, u, rfl, rfl⟩ | ⟨y, u, rfl, rfl⟩
      · rw [key_rl] at h; exact SeqAt.EqAt.str_int x t j u _ _ _ _ h
      · rw [key_rr] at h; exact wpAny_eqBool_str h
  «strs» := fun k x t v h => by
    rcases keyIs_shape h with ⟨i, u, rfl, e⟩ | ⟨y, u, rfl, e⟩
    · exact nomatch e
    · injection e with e1 _
      subst e1
      cases v <;> rfl

theorem mixKind_int (prog : Program) (w : World) (i : Int) (t : Tok) : (mixKind prog w).is (.inl i) (.int i t) = true := keyIs_int i t
theorem mixKind_str (prog : Program) (w : World) (x : Str) (t : Tok) : (mixKind prog w).is (.inr x) (.str x t) = true := keyIs_str x t
end L2

namespace L2
open PySem PySem.Spec PyProof.Rows

/-- a value, without the heap -/
inductive V where
  | non | bl (b : Bool) | int (i : Int) | str (x : Str) | byt (b : Array UInt8) | flt (b : UInt64) | ref (a : Addr) | ty (n : String)
  deriving DecidableEq

def RelV : V → Value → Prop
  | .non, u => u = Value.none
  | .bl b, u => u = Value.bool b
  | .int i, u => ∃ t, u = Value.int i t
  | .str x, u => ∃ t, u = Value.str x t
  | .byt b, u => ∃ t, u = Value.bytes b t
  | .flt b, u => ∃ t, u = Value.float b t
  | .ref a, u => u = Value.ref a
  | .ty n, u => u = Value.type n

abbrev Vals : List V → List Value → Prop := Paired RelV
theorem Vals.length {xs : List V} {us : List Value} (r : Vals xs us) : xs.length = us.length := Paired.length r
theorem Vals.get : ∀ {xs : List V} {us : List Value} {i : Nat} {x : V}, Vals xs us → xs[i]? = some x → ∃ u, us[i]? = some u ∧ RelV x u
  | _, _, _, _, .nil, e => by simp at e
  | _, _, 0, _, .cons r _, e => by simp at e; subst e; exact ⟨_, rfl, r⟩
  | _, _, i + 1, x, .cons _ t, e => by
    obtain ⟨u, h1, h2⟩ := Vals.get (i := i) (x := x) t (by simpa using e)
    exact ⟨u, by simpa using h1, h2⟩
theorem Vals.set {x : V} {u : Value} (r : RelV x u) : ∀ {xs : List V} {us : List Value} (i : Nat), Vals xs us → Vals (xs.set i x) (us.set i u)
  | _, _, _, .nil => .nil
  | _, _, 0, .cons _ t => .cons r t
  | _, _, i + 1, .cons q t => .cons q (Vals.set r i t)
theorem Vals.append : ∀ {xs ys : List V} {us ws : List Value}, Vals xs us → Vals ys ws → Vals (xs ++ ys) (us ++ ws)
  | _, _, _, _, .nil, s => s
  | _, _, _, _, .cons r t, s => .cons r (Vals.append t s)
theorem Vals.take : ∀ {xs : List V} {us : List Value} (n : Nat), Vals xs us → Vals (xs.take n) (us.take n)
  | _, _, 0, _ => .nil
  | _, _, _ + 1, .nil => .nil
  | _, _, n + 1, .cons r t => .cons r (Vals.take n t)
theorem Vals.drop : ∀ {xs : List V} {us : List Value} (n : Nat), Vals xs us → Vals (xs.drop n) (us.drop n)
  | _, _, 0, r => r
  | _, _, _ + 1, .nil => .nil
  | _, _, n + 1, .cons _ t => Vals.drop n t
def RelO : Option V → Option Value → Prop
  | some v, some u => RelV v u
  | none, none => True
  | _, _ => False
def KV {κ : Type} : List (κ × V) → List (κ × Value) → Prop := Paired fun (p : κ × V) (q : κ × Value) => p.1 = q.1 ∧ RelV p.2 q.2

/-- a key of a dict (00_mix): an int or a text -/
def kV : Key → V
  | .inl i => .int i
  | .inr x => .str x

/-- what stands at a tracked address -/
inductive HO where
  /-- a list -/
  | lst (xs : List V)
  /-- a tuple (never changes) -/
  | tup (xs : List V)
  /-- a dict whose keys are ints and texts; one whose keys are tuples of ints and texts (the empty one is both) -/
  | dK (kvs : List (Key × V)) | dT (kvs : List (List Key × V))
  /-- a set of ints: its members, its size -/
  | set (S : Int → Bool) (n : Nat)
  /-- an instance of the class at C, its dict at dx, its attributes -/
  | ins (C dx : Addr) (fs : List (Str × V))
  /-- the dict of the instance at x -/
  | own (x : Addr)
  /-- the dict of an exception -/
  | xd (fs : List (Str × V))
  /-- a bound method, f of x -/
  | met (f x : Addr)
  /-- a range object lo, lo + 1, .. below hi -/
  | rng (lo hi : Int)
  /-- a thing that is known to the object (the script; a dict while a loop walks it): read, never written while it is so -/
  | frz (o : Obj) (u : HO)
  /-- a code object's table -/
  | tbl (ps : Array Value)
  /-- any other thing, by what is true of its one object (a def of one's own: SetO a S n := HO.ext fun h => ..) -/
  | ext (φ : Heap → Prop)

abbrev Hp := Addr → Option HO
def upd (H : Hp) (a : Addr) (o : HO) : Hp := fun b => if b = a then some o else H b
theorem upd_same {H : Hp} {a : Addr} {o : HO} : upd H a o a = some o := by unfold upd; rw [if_pos rfl]
theorem upd_ne {H : Hp} {a b : Addr} {o : HO} (h : b ≠ a) : upd H a o b = H b := by unfold upd; rw [if_neg h]
theorem upd_upd {H : Hp} {a : Addr} {o u : HO} : upd (upd H a o) a u = upd H a u := by
  funext b; unfold upd; split <;> rfl
/-- two objects of different content stand apart -/
theorem ne_of {H : Hp} {a b : Addr} {o u : HO} (h : H a = some o) (h' : H b = some u) (d : o ≠ u) : a ≠ b := by
  intro e; subst e; rw [h] at h'; exact d (Option.some.inj h')
theorem ne_of_none {H : Hp} {a b : Addr} {o : HO} (h : H a = some o) (h' : H b = none) : a ≠ b := by
  intro e; subst e; rw [h] at h'; cases h'

section
variable (P : Program) (w : World)
def ObjOk (H : Hp) (h : Heap) (a : Addr) : HO → Prop
  | .lst xs => xs.length ≤ sizeLine ∧ ∃ (its : List Value) (n : Nat), Vals xs its ∧ h.get? a = some { cls := .type "list", data := .seq its.toArray n }
  | .tup xs => xs.length ≤ sizeLine ∧ ∃ its : List Value, Vals xs its ∧ IsTup h a its.toArray
  | .dK kvs => kvs.length ≤ sizeLine ∧ (a == sysModules) = false ∧ ∃ vs, KV kvs vs ∧ h.DictOf (mixKind P w) a vs
  | .dT kvs => kvs.length ≤ sizeLine ∧ (a == sysModules) = false ∧ ∃ xs : List (List Key × Addr × Value),
      Paired (fun (p : List Key × V) (q : List Key × Addr × Value) => p.1 = q.1 ∧ H q.2.1 = some (.tup (p.1.map kV)) ∧ RelV p.2 q.2.2) kvs xs ∧
      ∃ o es ep, h.get? a = some o ∧ o.ExactDict ∧ o.data = .dict es ep ∧ es.toList = xs.map (entryOfKey (tupleKind (mixKind P w))) ∧ (xs.map (·.1)).Nodup
  | .set S n => h.SetOf (intKind P w) a S n
  | .ins C dx fs => H dx = some (.own a) ∧ fs.length ≤ 1000 ∧ dx ≠ a ∧ h.get? a = some (PySem.W.instObj C dx) ∧
      ∃ mA, h.Ns1 dx mA ∧ (∀ f, RelO (fs.lookup f) (mA f)) ∧ PySem.Within mA (fs.map (·.1))
  | .own _ => ∃ o, h.get? a = some o
  | .xd fs => ∃ mA, h.Ns1 a mA ∧ ∀ f, RelO (fs.lookup f) (mA f)
  | .rng lo hi => ∃ t u v, h.get? a = some { cls := .type "range", data := .fields #[.int lo t, .int hi u, .int 1 v] }
  | .frz o u => h.get? a = some o ∧ ObjOk H h a u
  | .tbl ps => h.get? a = some { cls := .none, data := .fields ps }
  | .met f x => h.get? a = some (PySem.W.methodObj (.ref f) (.ref x))
  | .ext φ => φ h ∧ (∃ o, h.get? a = some o) ∧ ∀ h1 h2 : Heap, φ h1 → (∀ o, h1.get? a = some o → h2.get? a = some o) → φ h2
/-- the abstract heap is held -/
def HOk (H : Hp) (h : Heap) : Prop := ∀ a o, H a = some o → ObjOk P w H h a o
end

section
variable {P : Program} {w : World} {H H' : Hp} {h h' : Heap} {a : Addr} {o : HO}
theorem ObjOk.lt (x : ObjOk P w H h a o) : a < h.objs.size := by
  cases o with
  | lst xs => obtain ⟨_, _, _, _, e⟩ := x; exact Heap.lt_size e
  | tup xs => obtain ⟨_, _, _, p⟩ := x; exact p.lt
  | dK kvs => obtain ⟨_, _, _, _, o, _, _, e, _⟩ := x; exact Heap.lt_size e
  | dT kvs => obtain ⟨_, _, _, _, o, _, _, e, _⟩ := x; exact Heap.lt_size e
  | set S n => obtain ⟨o, _, _, _, e, _⟩ := x; exact Heap.lt_size e
  | ins C dx fs => obtain ⟨_, _, _, e, _⟩ := x; exact Heap.lt_size e
  | own y => obtain ⟨_, e⟩ := x; exact Heap.lt_size e
  | xd fs => obtain ⟨_, ⟨_, _, _, e, _⟩, _⟩ := x; exact Heap.lt_size e
  | rng lo hi => obtain ⟨_, _, _, e⟩ := x; exact Heap.lt_size e
  | frz ob u => obtain ⟨e, _⟩ := x; exact Heap.lt_size e
  | tbl ps => exact Heap.lt_size (show h.get? a = some _ from x)
  | met f y => exact Heap.lt_size (show h.get? a = some _ from x)
  | ext φ => obtain ⟨_, ⟨_, e⟩, _⟩ := x; exact Heap.lt_size e
theorem Paired.mapP {α β : Type} {F G : α → β → Prop} : ∀ {l₁ : List α} {l₂ : List β}, Paired F l₁ l₂ → (∀ a b, F a b → G a b) → Paired G l₁ l₂
  | _, _, .nil, _ => .nil
  | _, _, .cons r t, f => .cons (f _ _ r) (Paired.mapP t f)
/-- what an object's description leans on: its own object, its own dict, the tuples -/
theorem ObjOk.stay (x : ObjOk P w H h a o) (k : ∀ b u, (b = a ∨ H b = some (.own a)) → h.get? b = some u → h'.get? b = some u)
    (ho : ∀ b, H b = some (.own a) → H' b = some (.own a)) (ht : ∀ b xs, H b = some (.tup xs) → H' b = some (.tup xs)) : ObjOk P w H' h' a o := by
  induction o with
  | lst xs => obtain ⟨z, its, n, r, e⟩ := x; exact ⟨z, its, n, r, k _ _ (.inl rfl) e⟩
  | tup xs => obtain ⟨z, its, r, ob, e, c⟩ := x; exact ⟨z, its, r, ob, k _ _ (.inl rfl) e, c⟩
  | dK kvs => obtain ⟨z, y, vs, r, ob, es, ep, e, c⟩ := x; exact ⟨z, y, vs, r, ob, es, ep, k _ _ (.inl rfl) e, c⟩
  | dT kvs =>
    obtain ⟨z, y, xs, r, ob, es, ep, e, c⟩ := x
    exact ⟨z, y, xs, Paired.mapP r fun p q z => ⟨z.1, ht _ _ z.2.1, z.2.2⟩, ob, es, ep, k _ _ (.inl rfl) e, c⟩
  | set S n => obtain ⟨ob, es, ep, t, e, c⟩ := x; exact ⟨ob, es, ep, t, k _ _ (.inl rfl) e, c⟩
  | ins C dx fs =>
    obtain ⟨d, z, ne, e, mA, ⟨od, es, ep, e2, c⟩, r⟩ := x
    exact ⟨ho _ d, z, ne, k _ _ (.inl rfl) e, mA, ⟨od, es, ep, k _ _ (.inr d) e2, c⟩, r⟩
  | own y => obtain ⟨ob, e⟩ := x; exact ⟨ob, k _ _ (.inl rfl) e⟩
  | xd fs => obtain ⟨mA, ⟨od, es, ep, e, c⟩, r⟩ := x; exact ⟨mA, ⟨od, es, ep, k _ _ (.inl rfl) e, c⟩, r⟩
  | rng lo hi => obtain ⟨t, u, v, e⟩ := x; exact ⟨t, u, v, k _ _ (.inl rfl) e⟩
  | frz ob u ih => obtain ⟨e, q⟩ := x; exact ⟨k _ _ (.inl rfl) e, ih q⟩
  | tbl ps =>
    have e : h.get? a = some { cls := .none, data := .fields ps } := x
    show h'.get? a = some { cls := .none, data := .fields ps }
    exact k a _ (.inl rfl) e
  | met f y =>
    have e : h.get? a = some (PySem.W.methodObj (.ref f) (.ref y)) := x
    show h'.get? a = some (PySem.W.methodObj (.ref f) (.ref y))
    exact k a _ (.inl rfl) e
  | ext φ => obtain ⟨p, ⟨o, e⟩, st⟩ := x; exact ⟨st _ _ p fun o q => k _ _ (.inl rfl) q, ⟨o, k _ _ (.inl rfl) e⟩, st⟩
theorem HOk.lt (x : HOk P w H h) (e : H a = some o) : a < h.objs.size := (x a o e).lt
theorem HOk.fresh (x : HOk P w H h) (e : h.objs.size ≤ a) : H a = none := by
  cases q : H a with
  | none => rfl
  | some u => exact absurd (Nat.lt_of_lt_of_le (x.lt q) e) (Nat.lt_irrefl _)
/-- every object of the heap is kept -/
theorem HOk.kept (x : HOk P w H h) (k : ∀ b u, h.get? b = some u → h'.get? b = some u) : HOk P w H h' := fun a o e =>
  (x a o e).stay (fun b u _ q => k b u q) (fun _ q => q) fun _ _ q => q
/-- a new object is laid and tracked -/
theorem HOk.laid (x : HOk P w H h) (k : ∀ b u, h.get? b = some u → h'.get? b = some u) (hp : h.objs.size ≤ a) (new : ObjOk P w (upd H a o) h' a o) : HOk P w (upd H a o) h' := fun b u e => by
  have hn := x.fresh hp
  by_cases hb : b = a
  · subst hb; rw [upd_same] at e; cases e; exact new
  · rw [upd_ne hb] at e
    exact (x b u e).stay (fun c v _ q => k c v q) (fun c q => by rw [upd_ne (ne_of_none q hn)]; exact q) fun c xs q => by rw [upd_ne (ne_of_none q hn)]; exact q
end

/-- what may be read as u: it is u, or a known u -/
def Rd (H : Hp) (a : Addr) (u : HO) : Prop := H a = some u ∨ ∃ o, H a = some (.frz o u)
theorem Rd.ok {P : Program} {w : World} {H : Hp} {h : Heap} {a : Addr} {u : HO} (r : Rd H a u) (x : HOk P w H h) : ObjOk P w H h a u := by
  rcases r with r | ⟨o, r⟩
  · exact x a u r
  · obtain ⟨_, q⟩ := x a _ r
    exact q
/-- what may be written -/
def Mut : Option HO → Prop
  | some (.lst _) => True
  | some (.dK _) => True
  | some (.dT _) => True
  | some (.set _ _) => True
  | some (.ins _ _ _) => True
  | some (.ext _) => True
  | _ => False
section
variable {P : Program} {w : World} {H : Hp} {h h' : Heap} {x e : Addr} {o' : HO}
/-- the object at e is changed: x itself, or the dict of the instance x -/
theorem HOk.write (ok : HOk P w H h) (mu : Mut (H x)) (he : e = x ∨ H e = some (.own x)) (k : ∀ b u, b ≠ e → h.get? b = some u → h'.get? b = some u) (heo : ∃ u, h'.get? e = some u)
    (new : ObjOk P w (upd H x o') h' x o') : HOk P w (upd H x o') h' := fun b u q => by
  have nown : ∀ c y, H c = some (.own y) → c ≠ x := fun c y r z => by subst z; rw [r] at mu; exact mu
  have ntup : ∀ c xs, H c = some (.tup xs) → c ≠ x := fun c xs r z => by subst z; rw [r] at mu; exact mu
  by_cases hb : b = x
  · subst hb; rw [upd_same] at q; cases q; exact new
  · rw [upd_ne hb] at q
    by_cases hbe : b = e
    · have q' : H b = some (.own x) := by
        rcases he with z | z
        · exact absurd (hbe.trans z) hb
        · rw [hbe]; exact z
      rw [q] at q'; cases q'
      obtain ⟨v, hv⟩ := heo
      exact ⟨v, by rw [hbe]; exact hv⟩
    · refine (ok b u q).stay (fun c v hc r => k c v ?_ r) (fun c r => by rw [upd_ne (nown c b r)]; exact r) fun c xs r => by rw [upd_ne (ntup c xs r)]; exact r
      rcases hc with rfl | hc
      · exact hbe
      · rintro rfl
        rcases he with z | z
        · exact nown c b hc z
        · rw [hc] at z; cases z; exact hb rfl
end

/-! ### kept unless tracked; of the frames at fs (the callers') the slots may change (an exception that passes writes there); of the records at ex (iterators) nothing is said -/
structure Un (fs ex : List Addr) (H H' : Hp) (h h' : Heap) : Prop where
  keep : ∀ b o, h.get? b = some o → H b = none → b ∉ fs → b ∉ ex → h'.get? b = some o
  slot : ∀ b o, h.get? b = some o → H b = none → b ∈ fs → b ∉ ex → ∃ sl, h'.get? b = some { o with slots := sl }
  free : ∀ b o, h.get? b = some o → H b = none → b ∉ ex → H' b = none
  there : ∀ b o, h.get? b = some o → b ∉ ex → ∃ o', h'.get? b = some o'
  tups : ∀ b xs, H b = some (.tup xs) → H' b = some (.tup xs)
  frzs : ∀ b o u, H b = some (.frz o u) → H' b = some (.frz o u)
  tbls : ∀ b ps, H b = some (.tbl ps) → ∃ more, H' b = some (.tbl (ps ++ more))
section
variable {fs fs' ex ex' : List Addr} {H H1 H2 : Hp} {h h1 h2 h' : Heap} {a x e : Addr} {o : HO}
theorem Un.any (u : Un fs ex H H1 h h1) {b : Addr} {ob : Obj} (q : h.get? b = some ob) (n : H b = none) (hx : b ∉ ex) : ∃ sl, h1.get? b = some { ob with slots := sl } := by
  by_cases hb : b ∈ fs
  · exact u.slot b ob q n hb hx
  · exact ⟨ob.slots, u.keep b ob q n hb hx⟩
theorem Un.kept (k : ∀ b u, h.get? b = some u → h'.get? b = some u) : Un fs ex H H h h' :=
  ⟨fun b ob q _ _ _ => k b ob q, fun b ob q _ _ _ => ⟨ob.slots, k b ob q⟩, fun _ _ _ n _ => n, fun b ob q _ => ⟨ob, k b ob q⟩, fun _ _ q => q, fun _ _ _ q => q, fun _ ps q => ⟨#[], by rw [q]; simp⟩⟩
theorem Un.refl : Un fs ex H H h h := Un.kept fun _ _ q => q
theorem Un.laid (k : ∀ b u, h.get? b = some u → h'.get? b = some u) (hp : h.objs.size ≤ a) (hn : H a = none) : Un fs ex H (upd H a o) h h' where
  keep := fun b u q _ _ _ => k b u q
  slot := fun b u q _ _ _ => ⟨u.slots, k b u q⟩
  free := fun b u q n _ => by rw [upd_ne (Nat.ne_of_lt (Nat.lt_of_lt_of_le (Heap.lt_size q) hp))]; exact n
  there := fun b u q _ => ⟨u, k b u q⟩
  tups := fun b xs q => by rw [upd_ne (ne_of_none q hn)]; exact q
  frzs := fun b u xs q => by rw [upd_ne (ne_of_none q hn)]; exact q
  tbls := fun b ps q => ⟨#[], by rw [upd_ne (ne_of_none q hn), q]; simp⟩
theorem Un.write (mu : Mut (H x)) (he : e = x ∨ H e = some (.own x)) (k : ∀ b u, b ≠ e → h.get? b = some u → h'.get? b = some u) (heo : ∃ u, h'.get? e = some u) : Un fs ex H (upd H x o) h h' := by
  have hx : ∀ b, H b = none → b ≠ x := fun b n z => by subst z; rw [n] at mu; exact mu
  have hb : ∀ b, H b = none → b ≠ e := fun b n z => by
    subst z
    rcases he with r | r
    · exact hx b n r
    · rw [n] at r; cases r
  have hm : ∀ b u, H b = some u → ¬ Mut (some u) → b ≠ x := fun b u q nm z => by subst z; rw [q] at mu; exact nm mu
  refine ⟨fun b u q n _ _ => k b u (hb b n) q, fun b u q n _ _ => ⟨u.slots, k b u (hb b n) q⟩, fun b u q n _ => by rw [upd_ne (hx b n)]; exact n, fun b u q _ => ?_,
    fun b xs q => by rw [upd_ne (hm b _ q fun z => z)]; exact q, fun b u xs q => by rw [upd_ne (hm b _ q fun z => z)]; exact q, fun b ps q => ⟨#[], by rw [upd_ne (hm b _ q fun z => z), q]; simp⟩⟩
  by_cases hbe : b = e
  · subst hbe; exact heo
  · exact ⟨u, k b u hbe q⟩
end

/-! ### the heap without what is tracked -/
def trk (h : Heap) (H : Hp) : List Addr := (List.range h.objs.size).filter fun a => (H a).isSome
def hidT (h : Heap) (H : Hp) : Heap := PySem.W.hideAll h (trk h H)
theorem hidT_size (h : Heap) (H : Hp) : (hidT h H).objs.size = h.objs.size := PySem.W.hideAll_size _ _
theorem hidT_get {h : Heap} {H : Hp} {b : Addr} {o : Obj} (e : h.get? b = some o) (n : H b = none) : (hidT h H).get? b = some o :=
  PySem.W.hideAll_get _ e fun hm => by
    have q : (H b).isSome = true := (List.mem_filter.mp hm).2
    rw [n] at q; simp at q
theorem of_hidT {h : Heap} {H : Hp} {b : Addr} {o : Obj} (e : (hidT h H).get? b = some o) : h.get? b = some o ∧ H b = none := by
  have e' : h.get? b = some o := PySem.W.of_hideAll (trk h H) e
  refine ⟨e', ?_⟩
  cases q : H b with
  | none => rfl
  | some x =>
    have hm : b ∈ trk h H := List.mem_filter.mpr ⟨List.mem_range.mpr (Heap.lt_size e'), by simp [q]⟩
    have z : (hidT h H).get? b = none := PySem.W.hideAll_none (trk h H) hm
    rw [z] at e; cases e

/-! ### OpenK's ledger, filled with every new object but one -/
def allNews (g h : Heap) (L : Addr) : List (Addr × Obj) := (List.range h.objs.size).filterMap fun a => if a = L ∨ (g.get? a).isSome = true then none else (h.get? a).map fun o => (a, o)
def rest (g h : Heap) (L d : Addr) : List (Addr × Obj) := (allNews g h L).filter fun p => decide (p.1 ≠ d)
end L2

namespace L2
open PySem PySem.Spec PyProof.Rows

/-- the module's facts, over the base: the heap at the law's entry without what is tracked there -/
structure Mod (K : PySem.W.Frag) (mg : Str → Option Value) (base : Heap) : Prop where
  kin : K.In base
  glob : base.Ns mainGlobals mg
  blt : ∃ mb, base.Ns builtinsNs mb ∧ ∀ x : Str, x ≠ "__name__" → mb x = bootBuiltins x
  nolimit : base.NoLimit

/-- the context: a def's body (or a comprehension's block) running. base: fixed through the whole law; s₀, H₀: the entry; outer: the frames whose slots others may change (a def's callers); stack: all frames that run;
   ex: iterators that were made ahead of the entry and are walked here (a comprehension's); fn: the names whose cells were made at the entry (a def: all; a comprehension's block: its own); calm: not within an except suite; pn: pins that every state bears; xe: what is wanted of an exception that leaves the code -/
structure Cx where
  prog : Program
  w : World
  K : PySem.W.Frag
  mg : Str → Option Value
  base : Heap
  A : Around
  N : List Str
  s₀ : Shared
  H₀ : Hp
  env : Env
  outer : List Env
  stack : List Env
  ex : List Addr
  fn : Str → Bool
  calm : Bool
  pn : List (Addr × Obj)
  xe : Value → Shared → Prop
/-- the callers' frames -/
def frs (l : List Env) : List Addr := l.filterMap (·.frame)
abbrev Cx.fs (X : Cx) : List Addr := frs X.outer

def Vis (sc : Scope) (x : Str) : Prop := sc.names.lookup x = some .local ∨ sc.names.lookup x = some .cell ∨ sc.names.lookup x = some .free
def Loc (sc : Scope) (x : Str) : Prop := sc.names.lookup x = some .local ∨ sc.names.lookup x = some .cell
def Look (env : Env) (h : Heap) (m : Str → Option Value) (x : Str) (u : Value) : Prop :=
  (env.kindOf x = some .local ∧ m x = some u) ∨ ((env.kindOf x = some .cell ∨ env.kindOf x = some .free) ∧ ∃ c, env.cells.lookup x = some c ∧ h.IsCell c (some u))

structure Cx.Ok (X : Cx) : Prop where
  mod : Mod X.K X.mg X.base
  kind : X.env.scope.kind = .function
  glob : X.env.globals = mainGlobals
  blt : X.env.builtins = builtinsNs
  above : X.s₀.heap.objs.size ≤ X.env.locals
  inj : ∀ x y c, X.env.cells.lookup x = some c → X.env.cells.lookup y = some c → x = y
  has : ∀ x, (X.env.kindOf x = some .cell ∨ X.env.kindOf x = some .free) → ∃ c, X.env.cells.lookup x = some c
  cab : ∀ x c, X.fn x = true → X.env.cells.lookup x = some c → X.s₀.heap.objs.size ≤ c
  hd : X.calm = true → X.A.handled = none
  frames : X.A.frames = some X.stack
  stk : X.stack = X.outer ∨ (X.stack = X.env :: X.outer ∧ X.env.frame = some X.env.locals)
  exf : ∀ b ∈ X.ex, b ≠ X.env.locals ∧ ∀ x c, X.env.cells.lookup x = some c → c ≠ b
  bs : ∀ b o, X.base.get? b = some o → X.s₀.heap.get? b = some o ∧ X.H₀ b = none
  bsz : X.base.objs.size ≤ X.s₀.heap.objs.size
  noex : ∀ b o, X.base.get? b = some o → b ∉ X.ex
  exfs : ∀ b ∈ X.ex, b ∉ X.fs
  funs : X.s₀.heap.FunFrames X.base X.outer
  frf : ∀ b ∈ X.fs, X.H₀ b = none

structure Inv (X : Cx) (pins : List (Addr × Obj)) (σ : List (Option V)) (H : Hp) (s : Shared) : Prop where
  ok : X.Ok
  os : s.os = X.s₀.os
  bare : AllBare s.gens
  base : Un X.fs X.ex X.H₀ H X.s₀.heap s.heap
  loc : ∃ m, s.heap.Ns X.env.locals m ∧ ∀ (i : Nat) (x : Str) (v : V), X.N[i]? = some x → σ[i]? = some (some v) → Vis X.env.scope x → ∃ u, RelV v u ∧ Look X.env s.heap m x u
  cell : ∀ x c, X.env.cells.lookup x = some c → ∃ v, s.heap.IsCell c v
  free : H X.env.locals = none
  freeC : ∀ x c, X.env.cells.lookup x = some c → H c = none
  pin : ∀ p ∈ X.pn ++ pins, s.heap.get? p.1 = some p.2 ∧ H p.1 = none ∧ p.1 ≠ X.env.locals ∧ p.1 ∉ X.fs ∧ ∀ v, p.2.data ≠ .cell v
  hok : HOk X.prog X.w H s.heap
  len : σ.length = X.N.length

section
variable {X : Cx} {pins : List (Addr × Obj)} {σ : List (Option V)} {H H' : Hp} {s : Shared} {h' : Heap}

theorem Cx.Ok.nofr (ok : X.Ok) {b : Addr} {o : Obj} (e : X.base.get? b = some o) : b ∉ X.fs := fun hb => by
  have := (ok.funs.mem hb).1
  rw [e] at this; cases this
theorem Inv.bs (I : Inv X pins σ H s) : ∀ b o, X.base.get? b = some o → s.heap.get? b = some o ∧ H b = none := fun b o e =>
  ⟨I.base.keep b o (I.ok.bs b o e).1 (I.ok.bs b o e).2 (I.ok.nofr e) (I.ok.noex b o e), I.base.free b o (I.ok.bs b o e).1 (I.ok.bs b o e).2 (I.ok.noex b o e)⟩
theorem Inv.bk (I : Inv X pins σ H s) : ∀ b o, X.base.get? b = some o → s.heap.get? b = some o := fun b o e => (I.bs b o e).1
theorem Inv.mod (I : Inv X pins σ H s) : Mod X.K X.mg X.base := I.ok.mod
theorem Inv.kIn (I : Inv X pins σ H s) : X.K.In s.heap := I.ok.mod.kin.keeps I.bk
theorem Inv.lt (I : Inv X pins σ H s) : X.env.locals < s.heap.objs.size := let ⟨_, hn, _⟩ := I.loc; hn.lt
theorem Inv.sz (I : Inv X pins σ H s) : X.s₀.heap.objs.size ≤ s.heap.objs.size := Nat.le_trans I.ok.above (Nat.le_of_lt I.lt)
theorem Inv.nofs (I : Inv X pins σ H s) {a : Addr} (h : s.heap.objs.size ≤ a) : a ∉ X.fs := fun hb => by
  obtain ⟨_, o, ho, _⟩ := I.ok.funs.mem hb
  exact absurd (Nat.lt_of_lt_of_le (Heap.lt_size ho) (Nat.le_trans I.sz h)) (Nat.lt_irrefl _)
theorem Inv.cne (I : Inv X pins σ H s) : ∀ x c, X.env.cells.lookup x = some c → c ≠ X.env.locals := fun x c e z => by
  obtain ⟨v, o, ho, hd⟩ := I.cell x c e
  obtain ⟨m, ⟨o', es, ep, ho', hd', _⟩, _⟩ := I.loc
  rw [z, ho'] at ho; cases ho; rw [hd'] at hd; cases hd
theorem Inv.funs (I : Inv X pins σ H s) : s.heap.FunFrames X.base X.outer := by
  have all : ∀ (l : List Env), (∀ b ∈ frs l, b ∈ X.fs) → X.s₀.heap.FunFrames X.base l → s.heap.FunFrames X.base l := by
    intro l
    induction l with
    | nil => intro _ _; trivial
    | cons env r ih =>
      intro hs hl
      obtain ⟨hk, ⟨L, o, hf, hn, ho, hd⟩, hr⟩ := hl
      have hL : L ∈ X.fs := hs L (by unfold frs; rw [List.filterMap_cons, hf]; exact List.mem_cons_self)
      obtain ⟨sl, e⟩ := I.base.slot L o ho (I.ok.frf L hL) hL fun z => I.ok.exfs L z hL
      exact ⟨hk, ⟨L, _, hf, hn, e, hd⟩, ih (fun b hb => hs b (by unfold frs; rw [List.filterMap_cons, hf]; exact List.mem_cons_of_mem _ hb)) hr⟩
  exact all X.outer (fun _ hb => hb) I.ok.funs

/-- the frames that run, for a call -/
theorem Inv.stack (I : Inv X pins σ H s) : s.heap.FunFrames X.base X.stack := by
  rcases I.ok.stk with e | ⟨e, hf⟩
  · rw [e]; exact I.funs
  · rw [e]
    obtain ⟨m, hn, _⟩ := I.loc
    refine .cons (by rw [I.ok.kind]; decide) hf hn ?_ I.funs
    exact Heap.get?_none_of_le (Nat.le_trans I.ok.bsz I.ok.above)
theorem Inv.stkSub (I : Inv X pins σ H s) : ∀ b ∈ frs X.stack, b ∈ X.env.locals :: X.fs := fun b hb => by
  rcases I.ok.stk with e | ⟨e, hf⟩
  · rw [e] at hb; exact List.mem_cons_of_mem _ hb
  · rw [e] at hb
    unfold frs at hb
    rw [List.filterMap_cons, hf] at hb
    exact hb
theorem Inv.stkFree (I : Inv X pins σ H s) : ∀ b ∈ frs X.stack, H b = none := fun b hb => by
  rcases List.mem_cons.mp (I.stkSub b hb) with e | hb
  · rw [e]; exact I.free
  · obtain ⟨_, o, ho, _⟩ := I.ok.funs.mem hb
    exact I.base.free b o ho (I.ok.frf b hb) fun z => I.ok.exfs b z hb

/-- THE STEP: the untracked objects but the frame and the records at ch are kept (the callers' frames up to slots), the frame's map is kept, the new abstract heap is held -/
theorem Inv.step {g' : Array GenState} {t' : Nat} {d' : Drawn} {ch : List Addr} (I : Inv X pins σ H s)
    (hch : ∀ b ∈ ch, (b ∈ X.ex ∨ X.s₀.heap.objs.size ≤ b) ∧ b ≠ X.env.locals ∧ (∀ x c, X.env.cells.lookup x = some c → c ≠ b) ∧ ∀ p ∈ X.pn ++ pins, p.1 ≠ b)
    (keep : ∀ b o, b ≠ X.env.locals → b ∉ X.fs → b ∉ ch → s.heap.get? b = some o → H b = none → h'.get? b = some o)
    (slot : ∀ b o, b ≠ X.env.locals → b ∈ X.fs → b ∉ ch → s.heap.get? b = some o → H b = none → ∃ sl, h'.get? b = some { o with slots := sl }) (free : ∀ b o, b ∉ ch → s.heap.get? b = some o → H b = none → H' b = none)
    (there : ∀ b o, b ∉ ch → s.heap.get? b = some o → ∃ o', h'.get? b = some o')
    (tups : ∀ b xs, H b = some (.tup xs) → H' b = some (.tup xs)) (frzs : ∀ b o u, H b = some (.frz o u) → H' b = some (.frz o u)) (tbls : ∀ b ps, H b = some (.tbl ps) → ∃ more, H' b = some (.tbl (ps ++ more)))
    (ns : ∀ m, s.heap.Ns X.env.locals m → h'.Ns X.env.locals m) (hok : HOk X.prog X.w H' h') (hg : AllBare g') :
    Inv X pins σ H' { s with heap := h', gens := g', drawn := d', toks := t' } := by
  have neL : ∀ b o, X.s₀.heap.get? b = some o → b ≠ X.env.locals := fun b o e => Nat.ne_of_lt (Nat.lt_of_lt_of_le (Heap.lt_size e) I.ok.above)
  have neC : ∀ b o, X.s₀.heap.get? b = some o → b ∉ X.ex → b ∉ ch := fun b o e hx hb => by
    rcases (hch b hb).1 with z | z
    · exact hx z
    · exact absurd (Nat.lt_of_lt_of_le (Heap.lt_size e) z) (Nat.lt_irrefl _)
  have cellK : ∀ x c, X.env.cells.lookup x = some c → ∀ v, s.heap.IsCell c v → h'.IsCell c v := fun x c e v ⟨o, ho, hd⟩ => by
    have nch : c ∉ ch := fun z => (hch c z).2.2.1 x c e rfl
    by_cases hc : c ∈ X.fs
    · obtain ⟨sl, q⟩ := slot c o (I.cne x c e) hc nch ho (I.freeC x c e)
      exact ⟨_, q, hd⟩
    · exact ⟨o, keep c o (I.cne x c e) hc nch ho (I.freeC x c e), hd⟩
  refine ⟨I.ok, I.os, hg, ⟨fun b o e n hb hx => ?_, fun b o e n hb hx => ?_, fun b o e n hx => ?_, fun b o e hx => ?_, fun b xs e => tups b xs (I.base.tups b xs e), fun b o xs e => frzs b o xs (I.base.frzs b o xs e), fun b ps e => ?_⟩, ?_, fun x c e => ?_, ?_, fun x c e => ?_, fun p hp => ?_, hok, I.len⟩
  · exact keep b o (neL b o e) hb (neC b o e hx) (I.base.keep b o e n hb hx) (I.base.free b o e n hx)
  · obtain ⟨sl, e1⟩ := I.base.slot b o e n hb hx
    obtain ⟨sl', e2⟩ := slot b _ (neL b o e) hb (neC b o e hx) e1 (I.base.free b o e n hx)
    exact ⟨sl', e2⟩
  · obtain ⟨o', e1⟩ := I.base.there b o e hx
    exact free b o' (neC b o e hx) e1 (I.base.free b o e n hx)
  · obtain ⟨o', e1⟩ := I.base.there b o e hx
    exact there b o' (neC b o e hx) e1
  · obtain ⟨m1, e1⟩ := I.base.tbls b ps e
    obtain ⟨m2, e2⟩ := tbls b _ e1
    exact ⟨m1 ++ m2, by rw [e2, Array.append_assoc]⟩
  · obtain ⟨m, hn, hl⟩ := I.loc
    refine ⟨m, ns m hn, fun i x v e1 e2 e3 => ?_⟩
    obtain ⟨u, r, l⟩ := hl i x v e1 e2 e3
    refine ⟨u, r, ?_⟩
    rcases l with l | ⟨k, c, e, z⟩
    · exact .inl l
    · exact .inr ⟨k, c, e, cellK x c e _ z⟩
  · obtain ⟨v, z⟩ := I.cell x c e
    exact ⟨v, cellK x c e v z⟩
  · obtain ⟨m, ⟨o, _, _, ho, _⟩, _⟩ := I.loc
    exact free _ o (fun z => (hch _ z).2.1 rfl) ho I.free
  · obtain ⟨v, o, ho, hd⟩ := I.cell x c e
    exact free c o (fun z => (hch c z).2.2.1 x c e rfl) ho (I.freeC x c e)
  · obtain ⟨e, n, ne, nf, d⟩ := I.pin p hp
    have nch : p.1 ∉ ch := fun z => (hch p.1 z).2.2.2 p hp rfl
    exact ⟨keep p.1 p.2 ne nf nch e n, free p.1 p.2 nch e n, ne, nf, d⟩
/-- .. where the frame's own object is kept too -/
theorem Inv.un {t' : Nat} (I : Inv X pins σ H s) (u : Un X.fs [] H H' s.heap h') (hok : HOk X.prog X.w H' h') : Inv X pins σ H' { s with heap := h', toks := t' } := by
  obtain ⟨m, ⟨o, es, ep, ho, r⟩, _⟩ := id I.loc
  obtain ⟨sl, hL⟩ := u.any ho I.free (by simp)
  exact I.step (g' := s.gens) (d' := s.drawn) (ch := []) (fun _ z => nomatch z) (fun b o _ hb _ e n => u.keep b o e n hb (by simp)) (fun b o _ hb _ e n => u.slot b o e n hb (by simp)) (fun b o _ e n => u.free b o e n (by simp)) (fun b o _ e => u.there b o e (by simp)) u.tups u.frzs u.tbls (fun m' hm => by
    obtain ⟨o', es', ep', ho', r'⟩ := hm
    rw [ho] at ho'; cases ho'
    exact ⟨_, es', ep', hL, r'⟩) hok I.bare
/-- behind a call (or a comprehension's block): the slots of this frame may have changed too, the records at ch may have turned -/
theorem Inv.call {g' : Array GenState} {t' : Nat} {d' : Drawn} {ch : List Addr} (I : Inv X pins σ H s) (u : Un (frs X.stack) ch H H' s.heap h') (hok : HOk X.prog X.w H' h') (hg : AllBare g')
    (hch : ∀ b ∈ ch, (b ∈ X.ex ∨ X.s₀.heap.objs.size ≤ b) ∧ b ≠ X.env.locals ∧ (∀ x c, X.env.cells.lookup x = some c → c ≠ b) ∧ ∀ p ∈ X.pn ++ pins, p.1 ≠ b) :
    Inv X pins σ H' { s with heap := h', gens := g', drawn := d', toks := t' } := by
  obtain ⟨m, ⟨o, es, ep, ho, r⟩, _⟩ := id I.loc
  obtain ⟨sl, hL⟩ := u.any ho I.free fun z => (hch _ z).2.1 rfl
  exact I.step (ch := ch) hch (fun b o hL hb hc e n => u.keep b o e n (fun z => (List.mem_cons.mp (I.stkSub b z)).elim hL hb) hc) (fun b o _ _ hc e n => u.any e n hc) (fun b o hc e n => u.free b o e n hc) (fun b o hc e => u.there b o e hc) u.tups u.frzs u.tbls (fun m' hm => by
    obtain ⟨o', es', ep', ho', r'⟩ := hm
    rw [ho] at ho'; cases ho'
    exact ⟨_, es', ep', hL, r'⟩) hok hg
/-- an untracked record of ours (an iterator) has turned -/
theorem Inv.turned {t' : Nat} {it : Addr} (I : Inv X pins σ H s) (k : ∀ b o, b ≠ it → s.heap.get? b = some o → h'.get? b = some o) (hn : H it = none) (hL : it ≠ X.env.locals)
    (h1 : it ∈ X.ex ∨ X.s₀.heap.objs.size ≤ it) (h2 : ∀ x c, X.env.cells.lookup x = some c → c ≠ it) (h3 : ∀ p ∈ X.pn ++ pins, p.1 ≠ it) : Inv X pins σ H { s with heap := h', toks := t' } := by
  have nit : ∀ b u, H b = some u → b ≠ it := fun b u e z => by rw [z, hn] at e; cases e
  refine I.step (g' := s.gens) (d' := s.drawn) (ch := [it]) (fun b hb => ?_) (fun b o _ _ hc e _ => k b o (fun z => hc (by simp [z])) e) (fun b o _ _ hc e _ => ⟨o.slots, k b o (fun z => hc (by simp [z])) e⟩) (fun _ _ _ _ n => n)
    (fun b o hc e => ⟨o, k b o (fun z => hc (by simp [z])) e⟩) (fun _ _ e => e) (fun _ _ _ e => e) (fun b ps e => ⟨#[], by rw [e]; simp⟩) (fun m hm => ?_) (fun b u e => ?_) I.bare
  · have e : b = it := by simpa using hb
    subst e
    exact ⟨h1, hL, h2, h3⟩
  · obtain ⟨o, es, ep, ho, r⟩ := hm
    exact ⟨o, es, ep, k _ o (Ne.symm hL) ho, r⟩
  · refine (I.hok b u e).stay (fun c v hc q => k c v ?_ q) (fun _ q => q) fun _ _ q => q
    rcases hc with z | z
    · rw [z]; exact nit b u e
    · exact nit c _ z
theorem Inv.tok (I : Inv X pins σ H s) (t : Nat) : Inv X pins σ H { s with toks := t } := I.un (h' := s.heap) (t' := t) Un.refl I.hok
/-- all objects kept -/
theorem Inv.kept {t' : Nat} (I : Inv X pins σ H s) (k : ∀ b u, s.heap.get? b = some u → h'.get? b = some u) : Inv X pins σ H { s with heap := h', toks := t' } := I.un (Un.kept k) (I.hok.kept k)
/-- a new object laid and tracked -/
theorem Inv.laid {a : Addr} {o : HO} {t' : Nat} (I : Inv X pins σ H s) (k : ∀ b u, s.heap.get? b = some u → h'.get? b = some u) (hp : s.heap.objs.size ≤ a) (new : ObjOk X.prog X.w (upd H a o) h' a o) :
    Inv X pins σ (upd H a o) { s with heap := h', toks := t' } := I.un (Un.laid k hp (I.hok.fresh hp)) (I.hok.laid k hp new)
/-- an object written -/
theorem Inv.write {x e : Addr} {o : HO} {t' : Nat} (I : Inv X pins σ H s) (mu : Mut (H x)) (he : e = x ∨ H e = some (.own x)) (k : ∀ b u, b ≠ e → s.heap.get? b = some u → h'.get? b = some u) (heo : ∃ u, h'.get? e = some u)
    (new : ObjOk X.prog X.w (upd H x o) h' x o) : Inv X pins σ (upd H x o) { s with heap := h', toks := t' } := I.un (Un.write mu he k heo) (I.hok.write mu he k heo new)
theorem Inv.pins_of {pins' : List (Addr × Obj)} (I : Inv X pins σ H s) (h : ∀ p ∈ pins', s.heap.get? p.1 = some p.2 ∧ H p.1 = none ∧ p.1 ≠ X.env.locals ∧ p.1 ∉ X.fs ∧ ∀ v, p.2.data ≠ .cell v) : Inv X pins' σ H s :=
  ⟨I.ok, I.os, I.bare, I.base, I.loc, I.cell, I.free, I.freeC, fun p hp => (List.mem_append.mp hp).elim (fun z => I.pin p (List.mem_append_left _ z)) (h p), I.hok, I.len⟩

theorem nodup_ix {N : List Str} (hN : N.Nodup) {i j : Nat} {x : Str} (a : N[i]? = some x) (b : N[j]? = some x) : i = j := by
  obtain ⟨h1, e1⟩ := List.getElem?_eq_some_iff.mp a
  obtain ⟨h2, e2⟩ := List.getElem?_eq_some_iff.mp b
  exact (List.getElem_inj hN).mp (e1.trans e2.symm)

/-- a name is stored; what changed -/
theorem store_ok2 {M : Model} {A : Around} {E : Value → Shared → Prop} {i : Nat} {x : Str} {v : V} {u : Value} {Q : Unit → Shared → Prop} (I : Inv X pins σ H s) (hN : X.N.Nodup) (hi : X.N[i]? = some x) (hx : Loc X.env.scope x) (r : RelV v u)
    (h : ∀ s', Inv X pins (σ.set i (some v)) H s' → (∃ a, Heap.SameBut a s.heap s'.heap ∧ (a = X.env.locals ∨ X.env.cells.lookup x = some a)) → Q () s') (hf : X.fn x = true ∨ X.env.scope.names.lookup x = some .local := by first | exact .inl rfl | exact .inr rfl | assumption) : wpAny M A (storeName X.env x u) Q E s := by
  obtain ⟨m, hn, hl⟩ := id I.loc
  have hcls : (X.env.scope.kind == .class || (X.env.scope.kind == .module && X.env.locals != X.env.globals)) = false := by rw [I.ok.kind]; rfl
  have hiσ : i < σ.length := by rw [I.len]; exact (List.getElem?_eq_some_iff.mp hi).1
  have cne := I.cne
  have tracked : ∀ {a : Addr} {h' : Heap}, (∃ o, s.heap.get? a = some o ∧ H a = none) → Heap.SameBut a s.heap h' → HOk X.prog X.w H h' := fun {a h'} ha hs b ob e => by
    obtain ⟨_, _, hfree⟩ := ha
    refine (I.hok b ob e).stay (fun c w' hc q => (hs.2 c ?_).trans q) (fun _ q => q) fun _ _ q => q
    rintro rfl
    rcases hc with rfl | hc
    · rw [hfree] at e; cases e
    · rw [hfree] at hc; cases hc
  rcases hx with hk | hk
  · refine wpAny_storeName_local hk hn (fun h' hn' hs => ?_) hcls
    obtain ⟨oL, _, _, hoL, _⟩ := id hn
    refine h _ ⟨I.ok, I.os, I.bare, ⟨fun b o e n hb hx => ?_, fun b o e n hb hx => ?_, I.base.free, fun b o e hx => ?_, I.base.tups, I.base.frzs, I.base.tbls⟩, ⟨_, hn', fun j y v' e1 e2 e3 => ?_⟩, fun y c e => ?_, I.free, I.freeC, fun p hp => ?_, tracked ⟨oL, hoL, I.free⟩ hs, by simpa using I.len⟩ ⟨_, hs, .inl rfl⟩
    · exact (hs.2 b (Nat.ne_of_lt (Nat.lt_of_lt_of_le (Heap.lt_size e) I.ok.above))).trans (I.base.keep b o e n hb hx)
    · obtain ⟨sl, e1⟩ := I.base.slot b o e n hb hx
      exact ⟨sl, (hs.2 b (Nat.ne_of_lt (Nat.lt_of_lt_of_le (Heap.lt_size e) I.ok.above))).trans e1⟩
    · obtain ⟨o', e1⟩ := I.base.there b o e hx
      exact ⟨o', (hs.2 b (Nat.ne_of_lt (Nat.lt_of_lt_of_le (Heap.lt_size e) I.ok.above))).trans e1⟩
    · by_cases hj : j = i
      · subst hj
        rw [hi] at e1; cases e1
        rw [List.getElem?_set_self hiσ] at e2
        cases e2
        exact ⟨u, r, .inl ⟨hk, by simp⟩⟩
      · rw [List.getElem?_set_ne (Ne.symm hj)] at e2
        obtain ⟨u', r', q⟩ := hl j y v' e1 e2 e3
        refine ⟨u', r', ?_⟩
        rcases q with ⟨k, e⟩ | ⟨k, c, e, z⟩
        · refine .inl ⟨k, ?_⟩
          have : y ≠ x := fun e => hj (nodup_ix hN e1 (e ▸ hi))
          simp [this, e]
        · exact .inr ⟨k, c, e, z.sameBut hs (cne y c e)⟩
    · obtain ⟨w', z⟩ := I.cell y c e
      exact ⟨w', z.sameBut hs (cne y c e)⟩
    · obtain ⟨e, n, ne, nf, d⟩ := I.pin p hp
      exact ⟨(hs.2 p.1 ne).trans e, n, ne, nf, d⟩
  · have hfn : X.fn x = true := by
      rcases hf with z | z
      · exact z
      · rw [z] at hk; cases hk
    obtain ⟨c, hc⟩ := I.ok.has x (.inl hk)
    obtain ⟨w', z⟩ := I.cell x c hc
    refine wpAny_storeName_cell I.ok.kind hk hc z (fun h' hc' hs => ?_)
    obtain ⟨oc, hoc, hocd⟩ := id z
    refine h { s with heap := h' } ⟨I.ok, I.os, I.bare, ⟨fun b o e n hb hx => ?_, fun b o e n hb hx => ?_, I.base.free, fun b o e hx => ?_, I.base.tups, I.base.frzs, I.base.tbls⟩, ⟨m, hn.sameBut hs (Ne.symm (cne x c hc)), fun j y v' e1 e2 e3 => ?_⟩, fun y c' e => ?_, I.free, I.freeC, fun p hp => ?_, tracked ⟨oc, hoc, I.freeC x c hc⟩ hs, by simpa using I.len⟩ ⟨c, hs, .inr hc⟩
    · exact (hs.2 b (Nat.ne_of_lt (Nat.lt_of_lt_of_le (Heap.lt_size e) (I.ok.cab x c hfn hc)))).trans (I.base.keep b o e n hb hx)
    · obtain ⟨sl, e1⟩ := I.base.slot b o e n hb hx
      exact ⟨sl, (hs.2 b (Nat.ne_of_lt (Nat.lt_of_lt_of_le (Heap.lt_size e) (I.ok.cab x c hfn hc)))).trans e1⟩
    · obtain ⟨o', e1⟩ := I.base.there b o e hx
      exact ⟨o', (hs.2 b (Nat.ne_of_lt (Nat.lt_of_lt_of_le (Heap.lt_size e) (I.ok.cab x c hfn hc)))).trans e1⟩
    · by_cases hj : j = i
      · subst hj
        rw [hi] at e1; cases e1
        rw [List.getElem?_set_self hiσ] at e2
        cases e2
        exact ⟨u, r, .inr ⟨.inl hk, c, hc, hc'⟩⟩
      · rw [List.getElem?_set_ne (Ne.symm hj)] at e2
        obtain ⟨u', r', q⟩ := hl j y v' e1 e2 e3
        refine ⟨u', r', ?_⟩
        rcases q with q | ⟨k, c', e, z'⟩
        · exact .inl q
        · refine .inr ⟨k, c', e, z'.sameBut hs ?_⟩
          rintro rfl
          exact hj (nodup_ix hN e1 (I.ok.inj _ _ _ e hc ▸ hi))
    · by_cases hcc : c' = c
      · subst hcc; exact ⟨_, hc'⟩
      · obtain ⟨w2, z2⟩ := I.cell y c' e
        exact ⟨w2, z2.sameBut hs hcc⟩
    · obtain ⟨e, n, ne, nf, d⟩ := I.pin p hp
      refine ⟨(hs.2 p.1 ?_).trans e, n, ne, nf, d⟩
      intro q
      rw [q, hoc] at e
      have q' : oc = p.2 := Option.some.inj e
      exact d w' (by rw [← q']; exact hocd)
theorem store_ok {M : Model} {A : Around} {E : Value → Shared → Prop} {i : Nat} {x : Str} {v : V} {u : Value} {Q : Unit → Shared → Prop} (I : Inv X pins σ H s) (hN : X.N.Nodup) (hi : X.N[i]? = some x) (hx : Loc X.env.scope x) (r : RelV v u)
    (h : ∀ s', Inv X pins (σ.set i (some v)) H s' → Q () s') (hf : X.fn x = true ∨ X.env.scope.names.lookup x = some .local := by first | exact .inl rfl | exact .inr rfl | assumption) : wpAny M A (storeName X.env x u) Q E s :=
  store_ok2 I hN hi hx r (fun s' I' _ => h s' I') hf
/-- behind a call or a block, the state as it is -/
theorem Inv.call' {s' : Shared} {ch : List Addr} (I : Inv X pins σ H s) (ho : s'.os = s.os) (u : Un (frs X.stack) ch H H' s.heap s'.heap) (hok : HOk X.prog X.w H' s'.heap) (hg : AllBare s'.gens)
    (hch : ∀ b ∈ ch, (b ∈ X.ex ∨ X.s₀.heap.objs.size ≤ b) ∧ b ≠ X.env.locals ∧ (∀ x c, X.env.cells.lookup x = some c → c ≠ b) ∧ ∀ p ∈ X.pn ++ pins, p.1 ≠ b) : Inv X pins σ H' s' := by
  obtain ⟨h', g', d', t', o'⟩ := s'
  have e : o' = s.os := ho
  subst e
  exact I.call (g' := g') (t' := t') (d' := d') u hok hg hch
end

/-! ### the judgements -/
/-- an exception: its class, its own dict's address (where it has one), the abstract heap behind it -/
abbrev XK := Value → Option Addr → Hp → Prop
abbrev St := List (Option V)
abbrev VK := V → Hp → Prop
/-- an expression's reading; a test's; an argument list's -/
abbrev TE := St → Hp → VK → Prop
abbrev TT := St → Hp → (Bool → Hp → Prop) → Prop
abbrev TA := St → Hp → (List V → Hp → Prop) → Prop
/-- what is wanted behind a statement -/
structure Ends where
  nx : St → Hp → Prop
  rt : VK
  bk : St → Hp → Prop := fun _ _ => False
  ct : St → Hp → Prop := fun _ _ => False
abbrev TS := Ends → St → Hp → Prop

def EP (X : Cx) (pins : List (Addr × Obj)) (σ : St) (Q : VK) (u : Value) (s' : Shared) : Prop := ∃ v H', Inv X pins σ H' s' ∧ RelV v u ∧ Q v H'
def TP (X : Cx) (pins : List (Addr × Obj)) (σ : St) (Q : Bool → Hp → Prop) (b : Bool) (s' : Shared) : Prop := ∃ H', Inv X pins σ H' s' ∧ Q b H'
def AP (X : Cx) (pins : List (Addr × Obj)) (σ : St) (Q : List V → Hp → Prop) (us : List Value) (s' : Shared) : Prop := ∃ vs H', Inv X pins σ H' s' ∧ Vals vs us ∧ Q vs H'
def SP (X : Cx) (pins : List (Addr × Obj)) (D : Ends) (f : Flow) (s' : Shared) : Prop :=
  match f with
  | .next => ∃ σ' H', Inv X pins σ' H' s' ∧ D.nx σ' H'
  | .brk => ∃ σ' H', Inv X pins σ' H' s' ∧ D.bk σ' H'
  | .cont => ∃ σ' H', Inv X pins σ' H' s' ∧ D.ct σ' H'
  | .ret u => ∃ v σ' H', Inv X pins σ' H' s' ∧ RelV v u ∧ D.rt v H'

def PE (X : Cx) (e : Expr) (t : TE) : Prop :=
  ∀ (pins : List (Addr × Obj)) (s : Shared) (σ : St) (H : Hp) (Q : VK), Inv X pins σ H s → t σ H Q → wpAny (model X.prog X.w) X.A (eval e X.env) (EP X pins σ Q) X.xe s
def PT (X : Cx) (e : Expr) (t : TT) : Prop :=
  ∀ (pins : List (Addr × Obj)) (s : Shared) (σ : St) (H : Hp) (Q : Bool → Hp → Prop), Inv X pins σ H s → t σ H Q → wpAny (model X.prog X.w) X.A (isTrue e X.env (eval e X.env)) (TP X pins σ Q) X.xe s
/-- a test whatever its 'whole' is (and, or) -/
def PW (X : Cx) (e : Expr) (t : TT) : Prop :=
  ∀ (whole : Sem Value) (pins : List (Addr × Obj)) (s : Shared) (σ : St) (H : Hp) (Q : Bool → Hp → Prop), Inv X pins σ H s → t σ H Q → wpAny (model X.prog X.w) X.A (isTrue e X.env whole) (TP X pins σ Q) X.xe s
theorem PW.pt {X : Cx} {e : Expr} {t : TT} (h : PW X e t) : PT X e t := h _
/-- an argument list (no star), from the left -/
def PA (X : Cx) (es : List Expr) (t : TA) : Prop :=
  ∀ (pos : Pos) (pins : List (Addr × Obj)) (s : Shared) (σ : St) (H : Hp) (Q : List V → Hp → Prop), Inv X pins σ H s → t σ H Q → wpAny (model X.prog X.w) X.A (spliced (backTo pos (starEach es X.env))) (AP X pins σ Q) X.xe s
def PS (X : Cx) (st : Stmt) (t : TS) : Prop :=
  ∀ (pins : List (Addr × Obj)) (s : Shared) (σ : St) (H : Hp) (D : Ends), Inv X pins σ H s → t D σ H → wpAny (model X.prog X.w) X.A (exec st X.env) (SP X pins D) X.xe s
def PSs (X : Cx) (st : List Stmt) (t : TS) : Prop :=
  ∀ (pins : List (Addr × Obj)) (s : Shared) (σ : St) (H : Hp) (D : Ends), Inv X pins σ H s → t D σ H → wpAny (model X.prog X.w) X.A (execs st X.env) (SP X pins D) X.xe s
/-- weaken the end -/
theorem thn {α : Type} {t : Sem α} {Q Q' : α → Shared → Prop} {M : Model} {A : Around} {E : Value → Shared → Prop} {s : Shared} (h : wpAny M A t Q E s) (hQ : ∀ a s, Q a s → Q' a s) : wpAny M A t Q' E s := wpAny_mono h hQ fun _ _ x => x
end L2

namespace L2
open PySem PySem.Spec PyProof.Rows
section
variable {X : Cx}

/-! ### names and constants -/
def tVar (i : Nat) : TE := fun σ H Q => ∃ v, σ[i]? = some (some v) ∧ Q v H
def tC (v : V) : TE := fun _ H Q => Q v H
theorem pe_var {i : Nat} {x : Str} {pos : Pos} (hN : X.N[i]? = some x) (hv : Vis X.env.scope x) (hd : (x == ("__debug__" : Str)) = false := by decide) (hcd : (x == ("__classdict__" : Str)) = false := by decide) : PE X (.Name x pos) (tVar i) := by
  intro pins s σ H Q I h
  obtain ⟨v, e, h⟩ := h
  obtain ⟨m, hn, hl⟩ := I.loc
  obtain ⟨u, r, l⟩ := hl i x v hN e hv
  have fin : EP X pins σ Q u s := ⟨v, H, I, r, h⟩
  rcases l with ⟨hk, hm⟩ | ⟨hk, c, hc, hcell⟩
  · exact wpAny_Name (wpAny_loadName_local I.ok.kind hk hn hm fin) hd
  · rcases hk with hk | hk
    · exact wpAny_Name (wpAny_loadName_cell I.ok.kind hk hc hcell fin) hd
    · exact wpAny_Name (wpAny_loadName_free I.ok.kind hk hc hcell fin hcd) hd
theorem pe_int {i j pos} : PE X (.Constant (.int i) j pos) (tC (.int i)) := fun _ _ _ H _ I h => wpAny_Constant_int ⟨.int i, H, I.tok _, ⟨_, rfl⟩, h⟩
theorem pe_bl {b j pos} : PE X (.Constant (.bool b) j pos) (tC (.bl b)) := fun _ _ _ H _ I h => Constant_bool ⟨.bl b, H, I, rfl, h⟩
theorem pe_str {x j pos} : PE X (.Constant (.str x) j pos) (tC (.str x)) := fun _ _ _ H _ I h => Calls.Constant_str ⟨.str x, H, I.tok _, ⟨_, rfl⟩, h⟩

/-- a global name of the def -/
def Gl (X : Cx) (x : Str) : Prop := X.env.kindOf x = some .globalImplicit
theorem ld_glob {E : Value → Shared → Prop} {pins : List (Addr × Obj)} {s : Shared} {σ : St} {H : Hp} {x : Str} {u : Value} {pos : Pos} {Q : Value → Shared → Prop} (I : Inv X pins σ H s) (hg : Gl X x) (hm : X.mg x = some u) (h : Q u s)
    (hd : (x == ("__debug__" : Str)) = false := by decide) : wpAny (model X.prog X.w) X.A (eval (.Name x pos) X.env) Q E s :=
  Calls.Name_function_global I.ok.kind hg (Calls.loadGlobal_global (by rw [I.ok.glob]; exact I.mod.glob.keeps I.bk) hm h) hd
theorem ld_blt {E : Value → Shared → Prop} {pins : List (Addr × Obj)} {s : Shared} {σ : St} {H : Hp} {x : Str} {u : Value} {pos : Pos} {Q : Value → Shared → Prop} (I : Inv X pins σ H s) (hg : Gl X x) (hm : X.mg x = none) (hv : bootBuiltins x = some u) (h : Q u s)
    (hn : x ≠ "__name__" := by decide) (hd : (x == ("__debug__" : Str)) = false := by decide) : wpAny (model X.prog X.w) X.A (eval (.Name x pos) X.env) Q E s := by
  obtain ⟨mb, h1, h2⟩ := I.mod.blt
  exact Calls.Name_function_global I.ok.kind hg (Calls.loadGlobal_builtin (by rw [I.ok.glob]; exact I.mod.glob.keeps I.bk) hm (by rw [I.ok.blt]; exact h1.keeps I.bk) ((h2 x hn).trans hv) h) hd
/-- a module's constant, a class, a function, as a value -/
theorem pe_glob {x : Str} {v : V} {u : Value} {pos : Pos} (hg : Gl X x) (hm : X.mg x = some u) (r : RelV v u) (hd : (x == ("__debug__" : Str)) = false := by decide) : PE X (.Name x pos) (tC v) :=
  fun _ _ _ H _ I h => ld_glob I hg hm ⟨v, H, I, r, h⟩ hd
theorem pe_bltn {x : Str} {v : V} {u : Value} {pos : Pos} (hg : Gl X x) (hm : X.mg x = none) (hv : bootBuiltins x = some u) (r : RelV v u) (hn : x ≠ "__name__" := by decide) (hd : (x == ("__debug__" : Str)) = false := by decide) : PE X (.Name x pos) (tC v) :=
  fun _ _ _ H _ I h => ld_blt I hg hm hv ⟨v, H, I, r, h⟩ hn hd

/-! ### arithmetic -/
variable {a b : Expr} {ta tb : TE} {pos : Pos}
/-! ### comparisons -/
def PC (X : Cx) (op : CmpOp) (a b : Expr) (t : TE) : Prop :=
  ∀ (pins : List (Addr × Obj)) (s : Shared) (σ : St) (H : Hp) (Q : VK), Inv X pins σ H s → t σ H Q →
    wpAny (model X.prog X.w) X.A (eval a X.env) (fun v s₁ => wpAny (model X.prog X.w) X.A (eval b X.env) (fun u s₂ => wpAny (model X.prog X.w) X.A (compareOp op v u) (EP X pins σ Q) X.xe s₂) X.xe s₁) X.xe s
theorem nobehind (b : Expr) {op : CmpOp} (h : op ≠ .In) (h2 : op ≠ .NotIn) : behindInMarks op b = false := by
  have e1 : (op == CmpOp.In) = false := by cases op <;> first | rfl | exact absurd rfl h
  have e2 : (op == CmpOp.NotIn) = false := by cases op <;> first | rfl | exact absurd rfl h2
  cases b <;> simp [behindInMarks, e1, e2]
/-- is None -/
def tIsN (ta : TE) : TE := fun σ H Q => ta σ H fun x H1 => Q (.bl (decide (x = .non))) H1
theorem RelV.none_iff {x : V} {v : Value} (r : RelV x v) : (v == Value.none) = decide (x = .non) := by
  cases x with
  | non => cases r; rfl
  | bl _ => cases r; rfl
  | int _ => obtain ⟨t, rfl⟩ := r; rfl
  | str _ => obtain ⟨t, rfl⟩ := r; rfl
  | byt _ => obtain ⟨t, rfl⟩ := r; rfl
  | flt _ => obtain ⟨t, rfl⟩ := r; rfl
  | ref _ => cases r; rfl
  | ty _ => cases r; rfl
theorem pc_isN {j pos'} (ha : PE X a ta) : PC X .Is a (.Constant .none j pos') (tIsN ta) := by
  intro pins s σ H Q I h
  refine thn (ha pins s σ H _ I h) fun v s1 ⟨x, H1, I1, r1, q1⟩ => ?_
  exact Constant_none (is_none_gen ⟨.bl _, H1, I1, by rw [r1.none_iff]; rfl, q1⟩)
/-- a comparison as a value, as a test -/
def tB (t : TE) : TT := fun σ H Q => t σ H fun x H1 => ∃ c, x = .bl c ∧ Q c H1
theorem pe_cmp {op : CmpOp} {t : TE} (h : PC X op a b t) (h1 : behindInMarks op b = false := by first | exact nobehind _ (by decide) (by decide) | rfl) : PE X (.Compare a [op] [b] pos) t := fun pins s σ H Q I hw => wpAny_Compare1 (h pins s σ H Q I hw) h1
theorem pt_cmp {op : CmpOp} {t : TE} (h : PC X op a b t) (h1 : behindInMarks op b = false := by first | exact nobehind _ (by decide) (by decide) | rfl) : PT X (.Compare a [op] [b] pos) (tB t) := by
  intro pins s σ H Q I hw
  refine wpAny_isTrue_Compare1 (thn (h pins s σ H _ I hw) fun v s1 h1 => thn h1 fun u s2 h2 => thn h2 fun c s3 ⟨x, H1, I1, r1, q1⟩ => ?_) h1
  obtain ⟨d, rfl, q⟩ := q1
  cases r1
  exact wpAny_truthy_bool ⟨H1, I1, q⟩
/-- an expression whose value is a bool, as a test -/
theorem pt_val {e : Expr} {t : TE} (h : PE X e t) (he : ∀ whole, isTrue e X.env whole = (do let v ← whole; standAt e.pos; holding [v] (truthy v)) := by intro _; rfl) : PT X e (tB t) := by
  intro pins s σ H Q I hw
  refine isTrue_plain (thn (h pins s σ H _ I hw) fun v s1 ⟨x, H1, I1, r1, q1⟩ => ?_) (he _)
  obtain ⟨d, rfl, q⟩ := q1
  cases r1
  exact wpAny_truthy_bool ⟨H1, I1, q⟩

/-! ### and, or, not -/
variable {tA tB' : TT} {rest : List Expr}
def tOr (t u : TT) : TT := fun σ H Q => t σ H fun c H1 => if c = true then Q true H1 else u σ H1 Q
def tNot (t : TT) : TT := fun σ H Q => t σ H fun c H1 => Q (!c) H1
theorem pw_or1 (ha : PT X a tA) : PW X (.BoolOp .Or [a] pos) tA := by
  intro wh pins s σ H Q I h
  refine isTrue_or (thn (ha pins s σ H Q I h) fun c s1 e => ?_)
  cases c with
  | false => exact isTrue_or_nil e
  | true => exact e
theorem pw_or (ha : PT X a tA) (hb : PW X (.BoolOp .Or (b :: rest) pos) tB') : PW X (.BoolOp .Or (a :: b :: rest) pos) (tOr tA tB') := by
  intro wh pins s σ H Q I h
  refine isTrue_or (thn (ha pins s σ H _ I h) fun c s1 ⟨H1, I1, q1⟩ => ?_)
  cases c with
  | true => exact ⟨H1, I1, q1⟩
  | false => exact hb wh pins s1 σ H1 Q I1 q1
theorem pt_not (ha : PT X a tA) : PT X (.UnaryOp .Not a pos) (tNot tA) := by
  intro pins s σ H Q I h
  exact isTrue_not (ha pins s σ H (fun c H1 => Q (!c) H1) I h)
/-- .. as values (bools) -/
def tAndV (ta tb : TE) : TE := fun σ H Q => ta σ H fun x H1 => ∃ c, x = .bl c ∧ if c = true then tb σ H1 Q else Q (.bl false) H1
def tOrV (ta tb : TE) : TE := fun σ H Q => ta σ H fun x H1 => ∃ c, x = .bl c ∧ if c = true then Q (.bl true) H1 else tb σ H1 Q
def tNotV (ta : TE) : TE := fun σ H Q => ta σ H fun x H1 => ∃ c, x = .bl c ∧ Q (.bl (!c)) H1
theorem pe_one {op} {t : TE} (h : PE X a t) : PE X (.BoolOp op [a] pos) t := fun pins s σ H Q I hw => BoolOp_one (h pins s σ H Q I hw)
theorem pe_and (ha : PE X a ta) (hb : PE X (.BoolOp .And (b :: rest) pos) tb) : PE X (.BoolOp .And (a :: b :: rest) pos) (tAndV ta tb) := by
  intro pins s σ H Q I h
  refine BoolOp_and (thn (ha pins s σ H _ I h) fun v s1 ⟨x, H1, I1, r1, q1⟩ => ?_)
  obtain ⟨c, rfl, q1⟩ := q1
  cases r1
  refine wpAny_truthy_bool ?_
  cases c with
  | true => exact hb pins s1 σ H1 Q I1 q1
  | false => exact ⟨.bl false, H1, I1, rfl, q1⟩
theorem pe_or (ha : PE X a ta) (hb : PE X (.BoolOp .Or (b :: rest) pos) tb) : PE X (.BoolOp .Or (a :: b :: rest) pos) (tOrV ta tb) := by
  intro pins s σ H Q I h
  refine BoolOp_or (thn (ha pins s σ H _ I h) fun v s1 ⟨x, H1, I1, r1, q1⟩ => ?_)
  obtain ⟨c, rfl, q1⟩ := q1
  cases r1
  refine wpAny_truthy_bool ?_
  cases c with
  | false => exact hb pins s1 σ H1 Q I1 q1
  | true => exact ⟨.bl true, H1, I1, rfl, q1⟩
theorem pe_not (ha : PE X a ta) : PE X (.UnaryOp .Not a pos) (tNotV ta) := by
  intro pins s σ H Q I h
  refine UnaryOp_ (thn (ha pins s σ H _ I h) fun v s1 ⟨x, H1, I1, r1, q1⟩ => ?_)
  obtain ⟨c, rfl, q1⟩ := q1
  cases r1
  exact not_of (wpAny_truthy_bool ⟨.bl (!c), H1, I1, rfl, q1⟩)
end
end L2

namespace L2
open PySem PySem.Spec PyProof.Rows

/-! ### a list, a tuple that is read: tracked, frozen, or an object of the module -/
def SqL (K : PySem.W.Frag) (H : Hp) (a : Addr) (xs : List V) : Prop :=
  Rd H a (.lst xs) ∨
    ∃ (o : Obj) (its : Array Value) (n : Nat), K.lookup a = some o ∧ o.cls = .type "list" ∧ o.dict = none ∧ o.data = .seq its n ∧ its.size ≤ sizeLine ∧ Vals xs its.toList
def SqT (K : PySem.W.Frag) (H : Hp) (a : Addr) (xs : List V) : Prop :=
  Rd H a (.tup xs) ∨
    ∃ (o : Obj) (its : Array Value) (n : Nat), K.lookup a = some o ∧ o.cls = .type "tuple" ∧ o.data = .seq its n ∧ its.size ≤ sizeLine ∧ Vals xs its.toList
def absV : Value → Option V
  | .none => some .non
  | .bool b => some (.bl b)
  | .int i _ => some (.int i)
  | .str x _ => some (.str x)
  | .bytes b _ => some (.byt b)
  | .float b _ => some (.flt b)
  | .ref a => some (.ref a)
  | .type n => some (.ty n)
  | _ => none
theorem RelV.abs {x : V} {u : Value} (r : RelV x u) : absV u = some x := by
  cases x with
  | non => cases r; rfl
  | bl _ => cases r; rfl
  | int _ => obtain ⟨t, rfl⟩ := r; rfl
  | str _ => obtain ⟨t, rfl⟩ := r; rfl
  | byt _ => obtain ⟨t, rfl⟩ := r; rfl
  | flt _ => obtain ⟨t, rfl⟩ := r; rfl
  | ref _ => cases r; rfl
  | ty _ => cases r; rfl
theorem RelV.inj {x y : V} {u : Value} (r : RelV x u) (q : RelV y u) : x = y := Option.some.inj (r.abs.symm.trans q.abs)
theorem Vals.inj : ∀ {xs ys : List V} {us : List Value}, Vals xs us → Vals ys us → xs = ys
  | _, _, _, .nil, .nil => rfl
  | _, _, _, .cons r t, .cons r' t' => by rw [r.inj r', Vals.inj t t']
section
variable {X : Cx} {pins : List (Addr × Obj)} {σ : St} {H : Hp} {s : Shared} {a : Addr} {xs ys : List V}
theorem SqL.of {K : PySem.W.Frag} (h : H a = some (.lst xs)) : SqL K H a xs := .inl (.inl h)
theorem SqT.of {K : PySem.W.Frag} (h : H a = some (.tup xs)) : SqT K H a xs := .inl (.inl h)
theorem Inv.list (I : Inv X pins σ H s) (h : SqL X.K H a xs) : ∃ its : List Value, Vals xs its ∧ PlainL s.heap a its.toArray ∧ xs.length ≤ sizeLine := by
  rcases h with h | ⟨o, its, n, hk, hc, hd, hs, hz, r⟩
  · obtain ⟨z, its, n, r, e⟩ := h.ok I.hok
    exact ⟨its, r, ⟨_, n, e, rfl, rfl, rfl⟩, z⟩
  · refine ⟨its.toList, r, ⟨o, n, I.kIn a o hk, hc, hd, by simpa using hs⟩, ?_⟩
    have e := r.length
    simp only [Array.length_toList] at e
    omega
theorem Inv.tuple (I : Inv X pins σ H s) (h : SqT X.K H a xs) : ∃ its : List Value, Vals xs its ∧ IsTup s.heap a its.toArray ∧ xs.length ≤ sizeLine := by
  rcases h with h | ⟨o, its, n, hk, hc, hs, hz, r⟩
  · obtain ⟨z, its, r, p⟩ := h.ok I.hok
    exact ⟨its, r, p, z⟩
  · refine ⟨its.toList, r, ⟨o, I.kIn a o hk, hc, n, by simpa using hs⟩, ?_⟩
    have e := r.length
    simp only [Array.length_toList] at e
    omega
theorem Inv.list_inj (I : Inv X pins σ H s) (h : SqL X.K H a xs) (h' : SqL X.K H a ys) : xs = ys := by
  obtain ⟨its, r, ⟨o, n, e, _, _, d⟩, _⟩ := I.list h
  obtain ⟨its', r', ⟨o', n', e', _, _, d'⟩, _⟩ := I.list h'
  rw [e] at e'; cases e'
  rw [d] at d'
  injection d' with d1 _
  have : its = its' := by simpa using congrArg Array.toList d1
  subst this
  exact r.inj r'
theorem Inv.tuple_inj (I : Inv X pins σ H s) (h : SqT X.K H a xs) (h' : SqT X.K H a ys) : xs = ys := by
  obtain ⟨its, r, ⟨o, e, _, n, d⟩, _⟩ := I.tuple h
  obtain ⟨its', r', ⟨o', e', _, n', d'⟩, _⟩ := I.tuple h'
  rw [e] at e'; cases e'
  rw [d] at d'
  injection d' with d1 _
  have : its = its' := by simpa using congrArg Array.toList d1
  subst this
  exact r.inj r'
end

/-! ### another wish about exceptions -/
abbrev Cx.wish (X : Cx) (E : Value → Shared → Prop) : Cx := { X with xe := E }
/-- no exception leaves -/
abbrev Cx.nox (X : Cx) : Cx := X.wish fun _ _ => False
theorem Cx.Ok.wish {X : Cx} (ok : X.Ok) (E : Value → Shared → Prop) : (X.wish E).Ok :=
  ⟨ok.mod, ok.kind, ok.glob, ok.blt, ok.above, ok.inj, ok.has, ok.cab, ok.hd, ok.frames, ok.stk, ok.exf, ok.bs, ok.bsz, ok.noex, ok.exfs, ok.funs, ok.frf⟩
theorem Cx.Ok.unwish {X : Cx} {E : Value → Shared → Prop} (ok : (X.wish E).Ok) : X.Ok :=
  ⟨ok.mod, ok.kind, ok.glob, ok.blt, ok.above, ok.inj, ok.has, ok.cab, ok.hd, ok.frames, ok.stk, ok.exf, ok.bs, ok.bsz, ok.noex, ok.exfs, ok.funs, ok.frf⟩
section
variable {X : Cx} {pins : List (Addr × Obj)} {σ : St} {H : Hp} {s : Shared} {E : Value → Shared → Prop}
theorem Inv.wish (I : Inv X pins σ H s) (E : Value → Shared → Prop) : Inv (X.wish E) pins σ H s := ⟨I.ok.wish E, I.os, I.bare, I.base, I.loc, I.cell, I.free, I.freeC, I.pin, I.hok, I.len⟩
theorem Inv.unwish (I : Inv (X.wish E) pins σ H s) : Inv X pins σ H s := ⟨I.ok.unwish, I.os, I.bare, I.base, I.loc, I.cell, I.free, I.freeC, I.pin, I.hok, I.len⟩
theorem SP.unwish {D : Ends} {f : Flow} {s' : Shared} (h : SP (X.wish E) pins D f s') : SP X pins D f s' := by
  cases f with
  | next => obtain ⟨σ', H', I, q⟩ := h; exact ⟨σ', H', I.unwish, q⟩
  | brk => obtain ⟨σ', H', I, q⟩ := h; exact ⟨σ', H', I.unwish, q⟩
  | cont => obtain ⟨σ', H', I, q⟩ := h; exact ⟨σ', H', I.unwish, q⟩
  | ret u => obtain ⟨v, σ', H', I, r, q⟩ := h; exact ⟨v, σ', H', I.unwish, r, q⟩
theorem PSs.nox {st : List Stmt} {t : TS} (h : PSs X.nox st t) : PSs X st t := fun pins s σ H D I hw =>
  wpAny_mono (h pins s σ H D (I.wish _) hw) (fun _ _ q => q.unwish) fun _ _ z => False.elim z
end

/-! ### blocks and small statements -/
section
variable {X : Cx} {st : Stmt} {rest : List Stmt} {t u : TS} {e : Expr} {te : TE} {pos : Pos}
def tNext : TS := fun D σ H => D.nx σ H
def tSeq (t u : TS) : TS := fun D σ H => t { D with nx := u D } σ H
theorem pss_nil : PSs X [] tNext := fun _ _ σ H _ I h => wpAny_execs_nil ⟨σ, H, I, h⟩
theorem pss_cons (h1 : PS X st t) (h2 : PSs X rest u) : PSs X (st :: rest) (tSeq t u) := by
  intro pins s σ H D I h
  refine wpAny_execs_cons (thn (h1 pins s σ H { D with nx := u D } I h) fun f s1 q => ?_)
  cases f with
  | next =>
    obtain ⟨σ', H', I', q⟩ := q
    exact h2 pins s1 σ' H' D I' q
  | ret v => exact q
  | brk => exact q
  | cont => exact q
theorem pss_one (h1 : PS X st t) : PSs X [st] t := by
  intro pins s σ H D I h
  refine wpAny_execs_cons (thn (h1 pins s σ H D I h) fun f s1 q => ?_)
  cases f with
  | next => exact wpAny_execs_nil q
  | ret v => exact q
  | brk => exact q
  | cont => exact q
/-- in a def's body nothing is shown -/
theorem Inv.quiet {pins : List (Addr × Obj)} {σ : St} {H : Hp} {s : Shared} (I : Inv X pins σ H s) : interactive X.env = false := by simp [interactive, I.ok.kind]
/-- an expression whose value is dropped -/
def tDrop (te : TE) : TS := fun D σ H => te σ H fun _ H1 => D.nx σ H1
theorem ps_expr (he : PE X e te) (hs : swapsWith e none pos.line X.env = pure false := by rfl) : PS X (.Expr e pos) (tDrop te) := by
  intro pins s σ H D I h
  exact wpAny_Expr_any (thn (he pins s σ H _ I h) fun v s1 ⟨x, H1, I1, r1, q1⟩ => ⟨σ, H1, I1, q1⟩) I.quiet hs
def tRet (te : TE) : TS := fun D σ H => te σ H D.rt
theorem ps_ret (he : PE X e te) : PS X (.Return (some e) pos) (tRet te) := by
  intro pins s σ H D I h
  exact wpAny_Return_some (thn (he pins s σ H _ I h) fun v s1 ⟨x, H1, I1, r1, q1⟩ => ⟨x, σ, H1, I1, r1, q1⟩)
def tIfS (c : TT) (t u : TS) : TS := fun D σ H => c σ H fun b H1 => if b = true then t D σ H1 else u D σ H1
theorem ps_if {c : Expr} {a b : List Stmt} {tc : TT} (hc : PT X c tc) (ha : PSs X a t) (hb : PSs X b u) : PS X (.If c a b pos) (tIfS tc t u) := by
  intro pins s σ H D I h
  refine wpAny_If (thn (hc pins s σ H _ I h) fun d s1 ⟨H1, I1, q1⟩ => ?_)
  cases d with
  | true => exact ha pins s1 σ H1 D I1 q1
  | false => exact hb pins s1 σ H1 D I1 q1
/-- code that the proof never comes to -/
def tNever : TS := fun _ _ _ => False
theorem pss_never {sts : List Stmt} : PSs X sts tNever := fun _ _ _ _ _ _ h => h.elim
end

/-! ### targets -/
abbrev TG := V → St → Hp → (St → Hp → Prop) → Prop
abbrev TGs := List V → St → Hp → (St → Hp → Prop) → Prop
def PG (X : Cx) (target : Expr) (t : TG) : Prop :=
  ∀ (pins : List (Addr × Obj)) (s : Shared) (σ : St) (H : Hp) (v : V) (u : Value) (Q : St → Hp → Prop), Inv X pins σ H s → RelV v u → t v σ H Q →
    wpAny (model X.prog X.w) X.A (assign target X.env u) (fun _ s' => ∃ σ' H', Inv X pins σ' H' s' ∧ Q σ' H') X.xe s
/-- several targets, one after another -/
def PGs (X : Cx) (ts : List Expr) (t : TGs) : Prop :=
  ∀ (pins : List (Addr × Obj)) (s : Shared) (σ : St) (H : Hp) (vs : List V) (us : List Value) (Q : St → Hp → Prop), Inv X pins σ H s → Vals vs us → t vs σ H Q →
    wpAny (model X.prog X.w) X.A (assignInOrder ((assignEach ts X.env).map (·.2)) us) (fun _ s' => ∃ σ' H', Inv X pins σ' H' s' ∧ Q σ' H') X.xe s
/-- o[i] = v, by values -/
abbrev TSet := V → V → V → Hp → (Hp → Prop) → Prop
def PSet (X : Cx) (t : TSet) : Prop :=
  ∀ (pins : List (Addr × Obj)) (s : Shared) (σ : St) (H : Hp) (o i v : V) (ov iv u : Value) (Q : Hp → Prop), Inv X pins σ H s → RelV o ov → RelV i iv → RelV v u → t o i v H Q →
    wpAny (model X.prog X.w) X.A (setItem ov iv u) (fun _ s' => ∃ H', Inv X pins σ H' s' ∧ Q H') X.xe s
section
variable {X : Cx} {pos : Pos}
def gName (i : Nat) : TG := fun v σ H Q => Q (σ.set i (some v)) H
theorem pg_name {i : Nat} {x : Str} (hN : X.N.Nodup) (hi : X.N[i]? = some x) (hx : Loc X.env.scope x) (hf : X.fn x = true ∨ X.env.scope.names.lookup x = some .local := by first | exact .inl rfl | exact .inr rfl | assumption) : PG X (.Name x pos) (gName i) := by
  intro pins s σ H v u Q I r h
  exact wpAny_assign_Name (store_ok I hN hi hx r (fun s' I' => ⟨_, H, I', h⟩) hf)
def gNil : TGs := fun vs σ H Q => vs = [] ∧ Q σ H
def gCons (t : TG) (u : TGs) : TGs := fun vs σ H Q => ∃ v r, vs = v :: r ∧ t v σ H fun σ' H' => u r σ' H' Q
theorem pgs_nil : PGs X [] gNil := by
  intro pins s σ H vs us Q I r h
  obtain ⟨e, h⟩ := h
  subst e
  cases r
  exact assignInOrder_nil ⟨σ, H, I, h⟩
theorem pgs_cons {e : Expr} {es : List Expr} {t : TG} {u : TGs} (h1 : PG X e t) (h2 : PGs X es u)
    (hs : (assignEach (e :: es) X.env).map (·.2) = assign e X.env :: (assignEach es X.env).map (·.2) := by rfl) : PGs X (e :: es) (gCons t u) := by
  intro pins s σ H vs us Q I r h
  obtain ⟨v, vr, e1, h⟩ := h
  subst e1
  cases r with
  | cons r rr =>
    rw [hs]
    refine assignInOrder_cons (thn (h1 pins s σ H _ _ _ I r h) fun _ s1 ⟨σ1, H1, I1, q1⟩ => ?_)
    exact h2 pins s1 σ1 H1 _ _ Q I1 rr q1
/-- (a, b, ..) = a tuple of that length -/
def gTup (K : PySem.W.Frag) (n : Nat) (t : TGs) : TG := fun v σ H Q => ∃ a xs, v = .ref a ∧ SqT K H a xs ∧ xs.length = n ∧ t xs σ H Q
theorem pg_tup {es : List Expr} {k : Nat} {t : TGs} {n : Nat} (hc : X.calm = true) (h : PGs X es t)
    (hn : (assignEach es X.env).length = n := by rfl) (hst : (assignEach es X.env).findIdx? (·.1) = none := by rfl) : PG X (.Tuple es k pos) (gTup X.K n t) := by
  intro pins s σ H v u Q I r hw
  obtain ⟨a, xs, e1, hq, hl, hw⟩ := hw
  subst e1
  cases r
  obtain ⟨its, rv, ht, hz⟩ := I.tuple hq
  refine assign_Tuple_tuple (I.ok.hd hc) ht (by simp [hn, ← hl, rv.length]) hst fun h' hx => ?_
  have I1 : Inv X pins σ H { s with heap := h' } := I.kept (t' := s.toks) fun b o e => hx b o (Nat.ne_of_lt (Heap.lt_size e)) e
  exact h pins _ σ H xs _ Q I1 (by simpa using rv) hw
/-- o[i] = .. -/
def gSub (to ti : TE) (t : TSet) : TG := fun v σ H Q => to σ H fun o H1 => ti σ H1 fun i H2 => t o i v H2 fun H3 => Q σ H3
theorem pg_sub {o i : Expr} {to ti : TE} {t : TSet} (ho : PE X o to) (hi : PE X i ti) (hs : PSet X t)
    (ha : ∀ v, assign (.Subscript o i pos) X.env v = (do
      let ov ← holding [v] (eval o X.env)
      let iv ← holding [v, ov] (eval i X.env)
      standAt pos
      holding [v, ov, iv] (setItem ov iv v)
      release [v, ov, iv] []) := by intro _; rfl) : PG X (.Subscript o i pos) (gSub to ti t) := by
  intro pins s σ H v u Q I r h
  rw [ha]
  refine wpAny_bind (wpAny_holding (thn (ho pins s σ H _ I h) fun ov s1 ⟨x, H1, I1, r1, q1⟩ => ?_))
  refine wpAny_bind (wpAny_holding (thn (hi pins s1 σ H1 _ I1 q1) fun iv s2 ⟨y, H2, I2, r2, q2⟩ => ?_))
  refine wpAny_bind (wpAny_standAt (wpAny_bind (wpAny_holding (thn (hs pins s2 σ H2 x y v ov iv u _ I2 r1 r2 r q2) fun _ s3 ⟨H3, I3, q3⟩ => ?_))))
  exact wpAny_release ⟨σ, H3, I3, q3⟩
/-- target = value -/
def tAsg (te : TE) (g : TG) : TS := fun D σ H => te σ H fun x H1 => g x σ H1 D.nx
theorem ps_asg {tg e : Expr} {te : TE} {g : TG} (he : PE X e te) (hg : PG X tg g) (hs : swapsWithSole [tg] e pos.line X.env = pure false := by rfl) (hw : swappedStores [tg] e X.env = pure none := by rfl)
    (h1 : (assignEach [tg] X.env).map (·.2) = [assign tg X.env] := by rfl) : PS X (.Assign [tg] e pos) (tAsg te g) := by
  intro pins s σ H D I h
  refine wpAny_Assign_stores (thn (he pins s σ H _ I h) fun v s1 ⟨x, H1, I1, r1, q1⟩ => ?_) hs hw
  rw [h1]
  exact thn (hg pins s1 σ H1 x v _ I1 r1 q1) fun _ s2 q => q
/-- name = value -/
theorem ps_set {i : Nat} {x : Str} {e : Expr} {te : TE} {pos' : Pos} (hN : X.N.Nodup) (hi : X.N[i]? = some x) (hx : Loc X.env.scope x) (he : PE X e te) (hs : swapsWith e (some (.Name x pos')) pos.line X.env = pure false := by rfl) (hf : X.fn x = true ∨ X.env.scope.names.lookup x = some .local := by first | exact .inl rfl | exact .inr rfl | assumption) :
    PS X (.Assign [.Name x pos'] e pos) (tAsg te (gName i)) := by
  intro pins s σ H D I h
  refine wpAny_Assign_Name (thn (he pins s σ H _ I h) fun v s1 ⟨y, H1, I1, r1, q1⟩ => ?_) hs
  exact store_ok I1 hN hi hx r1 (fun s2 I2 => ⟨_, H1, I2, q1⟩) hf
end

/-! ### while -/
section
variable {X : Cx} {pos : Pos}
end

/-! ### what a loop or a comprehension walks -/
/-- at turn i: it yields x (the heap may grow), or it stops -/
structure It where
  go : Nat → Hp → Prop
  yld : Nat → Hp → V → Hp → Prop
  stop : Nat → Hp → Prop
/-- the iterator's own objects may turn: they are not the frame's, not pinned, younger than the entry (or a comprehension's own) -/
def FpOk (X : Cx) (pins : List (Addr × Obj)) (H : Hp) (b : Addr) : Prop :=
  H b = none ∧ b ≠ X.env.locals ∧ b ∉ X.fs ∧ (b ∈ X.ex ∨ X.s₀.heap.objs.size ≤ b) ∧ (∀ x c, X.env.cells.lookup x = some c → c ≠ b) ∧ ∀ p ∈ X.pn ++ pins, p.1 ≠ b
theorem Inv.fpOk {X : Cx} {pins : List (Addr × Obj)} {σ : St} {H H' : Hp} {s : Shared} {b : Addr} (I : Inv X pins σ H s) (hb : s.heap.objs.size ≤ b) (hn : H' b = none) : FpOk X pins H' b := by
  refine ⟨hn, Nat.ne_of_gt (Nat.lt_of_lt_of_le I.lt hb), I.nofs hb, .inr (Nat.le_trans I.sz hb), fun x c e z => ?_, fun p hp z => ?_⟩
  · obtain ⟨v, q⟩ := I.cell x c e
    exact absurd (Nat.lt_of_lt_of_le q.lt (by rw [z]; exact hb)) (Nat.lt_irrefl _)
  · exact absurd (Nat.lt_of_lt_of_le (Heap.lt_size (I.pin p hp).1) (by rw [z]; exact hb)) (Nat.lt_irrefl _)
structure Turn (P : Program) (w : World) (K : PySem.W.Frag) (tg : Expr) (J : It) (fp : List Addr) (it : Addr) (tn : Nat → Heap → Prop) : Prop where
  mem : it ∈ fp
  obj : ∀ i h, tn i h → ∀ b ∈ fp, ∃ o, h.get? b = some o ∧ ∀ v, o.data ≠ .cell v
  keep : ∀ i h h', tn i h → (∀ b ∈ fp, ∀ o, h.get? b = some o → h'.get? b = some o) → tn i h'
  item : ∀ (X : Cx), X.prog = P → X.w = w → X.K = K → X.calm = true → ∀ (i : Nat) (pins : List (Addr × Obj)) (s : Shared) (σ : St) (H : Hp) (E : Value → Shared → Prop), Inv X pins σ H s → (∀ b ∈ fp, FpOk X pins H b) → tn i s.heap → J.go i H →
    wpAny (model P w) X.A (pyNext (.ref it)) (fun r s1 => ∃ u, r = some u ∧
      wpAny (model P w) X.A (letOwnedTupleGo tg (.ref it) u) (fun _ s2 => ∃ x H', Inv X pins σ H' s2 ∧ RelV x u ∧ J.yld i H x H' ∧ tn (i + 1) s2.heap ∧ ∀ b ∈ fp, H' b = none) E s1) E s
  done : ∀ (X : Cx), X.prog = P → X.w = w → X.K = K → X.calm = true → ∀ (i : Nat) (pins : List (Addr × Obj)) (s : Shared) (σ : St) (H : Hp) (E : Value → Shared → Prop), Inv X pins σ H s → (∀ b ∈ fp, FpOk X pins H b) → tn i s.heap → J.stop i H →
    wpAny (model P w) X.A (pyNext (.ref it)) (fun r s1 => r = none ∧ Inv X pins σ H s1) E s
  self : ∀ (A : Around) (i : Nat) (s : Shared) (Q : Value → Shared → Prop) (E : Value → Shared → Prop), tn i s.heap → Q (.ref it) s → wpAny (model P w) A (pyIter (.ref it)) Q E s
abbrev TI := St → Hp → (It → Hp → Prop) → Prop
/-- an iterator has come -/
def PIE (X : Cx) (pins : List (Addr × Obj)) (σ : St) (tg : Expr) (R : It → Hp → Prop) (itv : Value) (s2 : Shared) : Prop :=
  ∃ (it : Addr) (fp : List Addr) (tn : Nat → Heap → Prop) (J : It) (H' : Hp), itv = .ref it ∧ Inv X pins σ H' s2 ∧ Turn X.prog X.w X.K tg J fp it tn ∧ tn 0 s2.heap ∧ (∀ b ∈ fp, FpOk X pins H' b) ∧ R J H'
def PI (X : Cx) (tg iter : Expr) (wi : TI) : Prop :=
  ∀ (pins : List (Addr × Obj)) (s : Shared) (σ : St) (H : Hp) (R : It → Hp → Prop), Inv X pins σ H s → wi σ H R →
    wpAny (model X.prog X.w) X.A (eval iter X.env) (fun v s1 => wpAny (model X.prog X.w) X.A (pyIter v) (PIE X pins σ tg R) X.xe s1) X.xe s

/-- the step ahead of the store is nothing for an iterator that keeps no tuple -/
theorem go_of {M : Model} {A : Around} {E : Value → Shared → Prop} {s : Shared} {tg : Expr} {it : Addr} {u : Value} {o : Obj} {n : String} {vs : Array Value} {Q : Unit → Shared → Prop} (ho : s.heap.get? it = some o) (hc : o.cls = .type n) (hd : o.data = .fields vs)
    (hn : ["enumerate", "zip", "dict_itemiterator", "dict_reverseitemiterator", "odict_iterator", "itertools.zip_longest", "itertools.pairwise"].contains n = false) (hQ : Q () s) : wpAny M A (letOwnedTupleGo tg (.ref it) u) Q E s := by
  unfold letOwnedTupleGo
  cases tg <;> first
    | exact wpAny_pure hQ
    | (cases u <;> first
        | exact wpAny_pure hQ
        | (refine wpAny_bind (wpAny_load ho ?_)
           rw [hc, hd]
           show wpAny M A (if (["enumerate", "zip", "dict_itemiterator", "dict_reverseitemiterator", "odict_iterator", "itertools.zip_longest", "itertools.pairwise"].contains n && vs[0]? == some (rawInt _)) = true then _ else _) Q E s
           rw [if_neg (by intro h; rw [hn, Bool.false_and] at h; cases h)]
           exact wpAny_pure hQ))

/-- the list at a, as it stands at each turn (a loop may append to it) -/
def Itl (K : PySem.W.Frag) (a : Addr) : It :=
  ⟨fun i H => ∃ xs x, SqL K H a xs ∧ xs[i]? = some x, fun i H x H' => H' = H ∧ ∀ xs, SqL K H a xs → xs[i]? = some x, fun i H => ∃ xs, SqL K H a xs ∧ xs.length ≤ i⟩
def Itt (K : PySem.W.Frag) (a : Addr) : It :=
  ⟨fun i H => ∃ xs x, SqT K H a xs ∧ xs[i]? = some x, fun i H x H' => H' = H ∧ ∀ xs, SqT K H a xs → xs[i]? = some x, fun i H => ∃ xs, SqT K H a xs ∧ xs.length ≤ i⟩
/-- lo, lo + 1, .. (n of them) -/
def Itr (lo : Int) (n : Nat) : It := ⟨fun i _ => i < n, fun i H x H' => H' = H ∧ x = .int (lo + i), fun i _ => n ≤ i⟩
theorem turn_list {P : Program} {w : World} {K : PySem.W.Frag} {tg : Expr} (a it : Addr) : Turn P w K tg (Itl K a) [it] it (fun i h => h.IsListIter it a i) where
  mem := by simp
  obj := fun i h st b hb => by
    have e : b = it := by simpa using hb
    subst e
    obtain ⟨o, e, c, d⟩ := st
    exact ⟨o, e, fun v z => by rw [d] at z; cases z⟩
  keep := fun i h h' st k => st.at fun o e => k it (by simp) o e
  item := by
    intro X hP hw hK hc i pins s σ H E I hf st hg
    subst hP hw hK
    obtain ⟨xs, x, hq, hx⟩ := hg
    obtain ⟨its, rv, p, hz⟩ := I.list hq
    obtain ⟨u, hu, ru⟩ := rv.get hx
    obtain ⟨f0, f1, f2, f3, f4, f5⟩ := hf it (by simp)
    refine wpAny_pyNext_list_item st p.isList (x := u) (by simpa using hu) fun h' st' sb => ?_
    have I1 : Inv X pins σ H { s with heap := h' } := I.turned (t' := s.toks) (fun b o hb e => (sb.2 b hb).trans e) f0 f1 f3 f4 f5
    obtain ⟨o, e, c, d⟩ := id st'
    exact ⟨u, rfl, go_of (s := { s with heap := h' }) e c d (by decide) ⟨x, H, I1, ru, ⟨rfl, fun ys hy => by rw [I.list_inj hy hq]; exact hx⟩, st', fun b hb => (hf b hb).1⟩⟩
  done := by
    intro X hP hw hK hc i pins s σ H E I hf st hg
    subst hP hw hK
    obtain ⟨xs, hq, hx⟩ := hg
    obtain ⟨its, rv, p, hz⟩ := I.list hq
    obtain ⟨f0, f1, f2, f3, f4, f5⟩ := hf it (by simp)
    have hl := rv.length
    exact wpAny_pyNext_list_end (I.ok.hd hc) st p.isList (by simp; omega) fun h' eb => ⟨rfl, I.turned (t' := s.toks) (fun b o hb e => eb b o hb e) f0 f1 f3 f4 f5⟩
  self := fun _ _ _ _ _ st h => wpAny_pyIter_listiter st h
theorem turn_tuple {P : Program} {w : World} {K : PySem.W.Frag} {tg : Expr} (a it : Addr) : Turn P w K tg (Itt K a) [it] it (fun i h => h.IsTupleIter it a i) where
  mem := by simp
  obj := fun i h st b hb => by
    have e : b = it := by simpa using hb
    subst e
    obtain ⟨o, e, c, d⟩ := st
    exact ⟨o, e, fun v z => by rw [d] at z; cases z⟩
  keep := fun i h h' st k => st.at fun o e => k it (by simp) o e
  item := by
    intro X hP hw hK hc i pins s σ H E I hf st hg
    subst hP hw hK
    obtain ⟨xs, x, hq, hx⟩ := hg
    obtain ⟨its, rv, p, hz⟩ := I.tuple hq
    obtain ⟨u, hu, ru⟩ := rv.get hx
    obtain ⟨f0, f1, f2, f3, f4, f5⟩ := hf it (by simp)
    refine wpAny_pyNext_tuple_item st (show s.heap.IsTuple a its.toArray from p) (x := u) (by simpa using hu) fun h' st' sb => ?_
    have I1 : Inv X pins σ H { s with heap := h' } := I.turned (t' := s.toks) (fun b o hb e => (sb.2 b hb).trans e) f0 f1 f3 f4 f5
    obtain ⟨o, e, c, d⟩ := id st'
    exact ⟨u, rfl, go_of (s := { s with heap := h' }) e c d (by decide) ⟨x, H, I1, ru, ⟨rfl, fun ys hy => by rw [I.tuple_inj hy hq]; exact hx⟩, st', fun b hb => (hf b hb).1⟩⟩
  done := by
    intro X hP hw hK hc i pins s σ H E I hf st hg
    subst hP hw hK
    obtain ⟨xs, hq, hx⟩ := hg
    obtain ⟨its, rv, p, hz⟩ := I.tuple hq
    obtain ⟨f0, f1, f2, f3, f4, f5⟩ := hf it (by simp)
    have hl := rv.length
    exact wpAny_pyNext_tuple_end (I.ok.hd hc) st (show s.heap.IsTuple a its.toArray from p) (by simp; omega) fun h' eb => ⟨rfl, I.turned (t' := s.toks) (fun b o hb e => eb b o hb e) f0 f1 f3 f4 f5⟩
  self := fun _ _ _ _ _ st h => wpAny_pyIter_tupleiter st h
theorem turn_range {P : Program} {w : World} {K : PySem.W.Frag} {tg : Expr} (it : Addr) (lo : Int) (n : Nat) : Turn P w K tg (Itr lo n) [it] it (fun i h => IsRangeIter h it (lo + (i : Nat) * 1) ((n : Int) - (i : Nat)) 1) where
  mem := by simp
  obj := fun i h st b hb => by
    have e : b = it := by simpa using hb
    subst e
    exact ⟨_, st, fun v z => by
      have z' : Data.fields _ = Data.cell v := z
      cases z'⟩
  keep := fun i h h' st k => k it (by simp) _ st
  item := by
    intro X hP hw hK hc i pins s σ H E I hf st hg
    subst hP hw hK
    obtain ⟨f0, f1, f2, f3, f4, f5⟩ := hf it (by simp)
    have W := Walks.range (prog := X.prog) (w := X.w) (I.ok.hd hc) it lo 1 n
    refine W.item i s _ _ hg st fun v h' tk hv st' kk => ?_
    obtain ⟨t, rfl⟩ := hv
    have I1 : Inv X pins σ H { s with heap := h', toks := tk } := I.turned (fun b o hb e => kk b o (by simpa using hb) e) f0 f1 f3 f4 f5
    refine ⟨_, rfl, go_of (s := { s with heap := h', toks := tk }) (n := "range_iterator") st' rfl rfl (by decide) ⟨.int (lo + i), H, I1, ⟨t, ?_⟩, ⟨rfl, rfl⟩, st', fun b hb => (hf b hb).1⟩⟩
    rw [Int.mul_one]
  done := by
    intro X hP hw hK hc i pins s σ H E I hf st hg
    subst hP hw hK
    obtain ⟨f0, f1, f2, f3, f4, f5⟩ := hf it (by simp)
    exact wpAny_pyNext_range_end (I.ok.hd hc) st (by have : n ≤ i := hg; omega) fun h' eb => ⟨rfl, I.turned (t' := s.toks) (fun b o hb e => eb b o hb e) f0 f1 f3 f4 f5⟩
  self := fun _ _ _ _ _ st h => wpAny_pyIter_rangeiter st h
end L2

namespace L2
open PySem PySem.Spec PyProof.Rows
section
variable {X : Cx} {tg : Expr}
def iTup (K : PySem.W.Frag) (tl : TE) : TI := fun σ H R => tl σ H fun x H1 => ∃ a, x = .ref a ∧ (∃ xs, SqT K H1 a xs) ∧ R (Itt K a) H1
theorem pi_tup {l : Expr} {tl : TE} (hl : PE X l tl) : PI X tg l (iTup X.K tl) := by
  intro pins s σ H R I h
  refine thn (hl pins s σ H _ I h) fun v s1 ⟨x, H1, I1, r1, q1⟩ => ?_
  obtain ⟨a, e, ⟨xs, hq⟩, q⟩ := q1
  subst e
  cases r1
  obtain ⟨its, rv, p, hz⟩ := I1.tuple hq
  refine wpAny_pyIter_tuple (show s1.heap.IsTuple a its.toArray from p) ?_
  refine ⟨s1.heap.objs.size, [s1.heap.objs.size], _, _, H1, rfl, I1.kept (t' := s1.toks) fun b o e => Heap.get?_push_of_some _ e, turn_tuple a _, ⟨_, Heap.get?_push_size _ rfl, rfl, rfl⟩, fun b hb => ?_, q⟩
  have e : b = s1.heap.objs.size := by simpa using hb
  subst e
  exact I1.fpOk (Nat.le_refl _) (I1.hok.fresh (Nat.le_refl _))
/-- a range object just made, walked -/
theorem range_it {pins : List (Addr × Obj)} {σ : St} {H : Hp} {s : Shared} {R : It → Hp → Prop} {E : Value → Shared → Prop} {lo hi : Int} {t u v : Tok} {tk : Nat} (I : Inv X pins σ H s) (h1 : -(2 ^ 62) ≤ lo) (h2 : lo < 2 ^ 62) (h3 : -(2 ^ 62) ≤ hi) (h4 : hi < 2 ^ 62)
    (q : R (Itr lo (hi - lo).toNat) H) : wpAny (model X.prog X.w) X.A (pyIter (.ref s.heap.objs.size)) (PIE X pins σ tg R) E { s with heap := s.heap.push { cls := .type "range", data := .fields #[.int lo t, .int hi u, .int 1 v] }, toks := tk } := by
  refine wpAny_pyIter_range (IsRange.new ..) (small_one h1 h2 h3 h4) ?_
  have I1 : Inv X pins σ H { s with heap := s.heap.push { cls := .type "range", data := .fields #[.int lo t, .int hi u, .int 1 v] }, toks := tk } := I.kept fun b o e => Heap.get?_push_of_some _ e
  refine ⟨(s.heap.push { cls := .type "range", data := .fields #[.int lo t, .int hi u, .int 1 v] }).objs.size, [(s.heap.push { cls := .type "range", data := .fields #[.int lo t, .int hi u, .int 1 v] }).objs.size], _, _, H, rfl,
    I1.kept (t' := tk) fun b o e => Heap.get?_push_of_some _ e, turn_range _ lo (hi - lo).toNat, ?_, fun b hb => ?_, q⟩
  · have e1 : lo + ((0 : Nat) : Int) * 1 = lo := by simp
    have e2 : (((hi - lo).toNat : Nat) : Int) - ((0 : Nat) : Int) = Builtin.Range.rangeSize lo hi 1 := by rw [rangeSize_one]; split <;> omega
    show IsRangeIter _ _ (lo + ((0 : Nat) : Int) * 1) ((((hi - lo).toNat : Nat) : Int) - ((0 : Nat) : Int)) 1
    rw [e1, e2]
    exact Heap.get?_push_size _ rfl
  · have e : b = (s.heap.push { cls := .type "range", data := .fields #[.int lo t, .int hi u, .int 1 v] }).objs.size := by simpa using hb
    subst e
    exact I1.fpOk (Nat.le_refl _) (I1.hok.fresh (Nat.le_refl _))
def iRng1 (ta : TA) : TI := fun σ H R => ta σ H fun vs H1 => ∃ j : Int, vs = [.int j] ∧ -(2 ^ 62) ≤ j ∧ j < 2 ^ 62 ∧ R (Itr 0 j.toNat) H1
def iRng2 (ta : TA) : TI := fun σ H R => ta σ H fun vs H1 => ∃ i j : Int, vs = [.int i, .int j] ∧ (-(2 ^ 62) ≤ i ∧ i < 2 ^ 62 ∧ -(2 ^ 62) ≤ j ∧ j < 2 ^ 62) ∧ R (Itr i (j - i).toNat) H1
theorem pi_range1 {a : Expr} {ta : TA} {p pos : Pos} (hg : Gl X "range") (hm : X.mg "range" = none) (ha : PA X [a] ta) (hs : starEach [a] X.env = [(false, eval a X.env)] := by rfl) : PI X tg (.Call (.Name "range" p) [a] [] pos) (iRng1 ta) := by
  intro pins s σ H R I h
  refine Call_ (ld_blt I hg hm boot_range (PyProof.Rows.callWith_type1 (thn (ha pos pins s σ H _ I h) fun us s1 ⟨vs, H1, I1, r1, q1⟩ => ?_) hs rfl))
  obtain ⟨j, e, q1, q2, q⟩ := q1
  subst e
  cases r1 with
  | cons r rr =>
    cases rr
    obtain ⟨t, rfl⟩ := r
    exact call_range_1 (range_it I1 (by omega) (by omega) q1 q2 (by simpa using q))
theorem pi_range2 {a b : Expr} {ta : TA} {p pos : Pos} (hg : Gl X "range") (hm : X.mg "range" = none) (ha : PA X [a, b] ta) (hs : starEach [a, b] X.env = [(false, eval a X.env), (false, eval b X.env)] := by rfl) (hs2 : starEach [b] X.env = [(false, eval b X.env)] := by rfl) :
    PI X tg (.Call (.Name "range" p) [a, b] [] pos) (iRng2 ta) := by
  intro pins s σ H R I h
  refine Call_ (ld_blt I hg hm boot_range (PyProof.Rows.callWith_type1 (thn (ha pos pins s σ H _ I h) fun us s1 ⟨vs, H1, I1, r1, q1⟩ => ?_) (by rw [hs, hs2]) (by rw [hs2]; rfl)))
  obtain ⟨i, j, e, ⟨q1, q2, q3, q4⟩, q⟩ := q1
  subst e
  cases r1 with
  | cons r rr =>
    cases rr with
    | cons r' rr =>
      cases rr
      obtain ⟨t, rfl⟩ := r
      obtain ⟨t', rfl⟩ := r'
      exact call_range_2 (range_it I1 q1 q2 q3 q4 q)

/-! ### for -/
/-- W: the invariant by the turn and a measure; N: what the body is to reach -/
def tFor (wi : TI) (g : TG) (tb : TS) : TS := fun D σ H => wi σ H fun J H1 => ∃ W : Nat → Nat → St → Hp → Prop, (∃ m, W 0 m σ H1) ∧ ∀ i m σ H, W i m σ H →
  (J.stop i H ∧ D.nx σ H) ∨ (J.go i H ∧ ∃ N : St → Hp → Prop, (∀ σ' H', N σ' H' → ∃ m', m' < m ∧ W (i + 1) m' σ' H') ∧ ∀ x H', J.yld i H x H' → g x σ H' fun σ2 H2 => tb { D with nx := N, ct := N, bk := D.nx } σ2 H2)
/-- the records at fp as they stand -/
def pinsAt (fp : List Addr) (h : Heap) : List (Addr × Obj) := fp.filterMap fun b => (h.get? b).map fun o => (b, o)
theorem mem_pinsAt {fp : List Addr} {h : Heap} {b : Addr} {o : Obj} (hb : b ∈ fp) (e : h.get? b = some o) : (b, o) ∈ pinsAt fp h := List.mem_filterMap.mpr ⟨b, hb, by rw [e]; rfl⟩
theorem of_pinsAt {fp : List Addr} {h : Heap} {p : Addr × Obj} (hp : p ∈ pinsAt fp h) : p.1 ∈ fp ∧ h.get? p.1 = some p.2 := by
  obtain ⟨b, hb, e⟩ := List.mem_filterMap.mp hp
  cases q : h.get? b with
  | none => rw [q] at e; cases e
  | some o =>
    rw [q] at e
    have e' : (b, o) = p := Option.some.inj e
    subst e'
    exact ⟨hb, q⟩
theorem Inv.pinned {pins : List (Addr × Obj)} {σ : St} {H : Hp} {s : Shared} {fp : List Addr} (I : Inv X pins σ H s) (hf : ∀ b ∈ fp, FpOk X pins H b) (ho : ∀ b ∈ fp, ∃ o, s.heap.get? b = some o ∧ ∀ v, o.data ≠ .cell v) : Inv X (pins ++ pinsAt fp s.heap) σ H s :=
  I.pins_of fun p hp => (List.mem_append.mp hp).elim (fun z => I.pin p (List.mem_append_right _ z)) fun z => by
    obtain ⟨hb, e⟩ := of_pinsAt z
    obtain ⟨f0, f1, f2, _⟩ := hf p.1 hb
    obtain ⟨o, e', d⟩ := ho p.1 hb
    rw [e] at e'; cases e'
    exact ⟨e, f0, f1, f2, d⟩
theorem Inv.unpinned {pins pl : List (Addr × Obj)} {σ : St} {H : Hp} {s : Shared} (I : Inv X (pins ++ pl) σ H s) : Inv X pins σ H s := I.pins_of fun p hp => I.pin p (List.mem_append_right _ (List.mem_append_left _ hp))
theorem ps_for {iter : Expr} {body : List Stmt} {wi : TI} {g : TG} {tb : TS} {pos : Pos} (hp : PassesOwn (model X.prog X.w) X.A X.env X.xe) (hc : X.calm = true) (hi : PI X tg iter wi) (hg : PG X tg g) (hb : PSs X body tb)
    (hs : ∀ x, foldedSetIterable iter X.env x = pure x := by intro _; rfl) : PS X (.For tg iter body [] pos) (tFor wi g tb) := by
  intro pins s σ H D I h
  refine wpAny_For (thn (hi pins s σ H _ I h) fun v s1 h1 => thn h1 fun itv s2 h2 => ?_) hs
  obtain ⟨it, fp, tn, J, H2, e, I2, T, st2, f2, W, ⟨m0, w0⟩, turn⟩ := h2
  subst e
  -- what stays true of the iterator's objects through the loop
  have stat : ∀ {H' : Hp}, (∀ b ∈ fp, H' b = none) → ∀ b ∈ fp, FpOk X pins H' b := fun hn b hb => ⟨hn b hb, (f2 b hb).2⟩
  refine codeAny_forLoop_any (fun n s' => ∃ i σ' H', Inv X pins σ' H' s' ∧ tn i s'.heap ∧ (∀ b ∈ fp, H' b = none) ∧ W i n σ' H') ?_ m0 ⟨0, σ, H2, I2, st2, fun b hb => (f2 b hb).1, w0⟩
  rintro n s3 ⟨i, σ3, H3, I3, st3, fr3, w3⟩
  rcases turn i n σ3 H3 w3 with ⟨stop, qn⟩ | ⟨go, N, hN, step⟩
  · refine wpAny_passesOwn hp (thn (T.done X rfl rfl rfl hc i pins s3 σ3 H3 X.xe I3 (stat fr3) st3 stop) fun r s4 ⟨hr, I4⟩ => ?_)
    subst hr
    exact wpAny_execs_nil ⟨σ3, H3, I4, qn⟩
  · refine wpAny_passesOwn hp (thn (T.item X rfl rfl rfl hc i pins s3 σ3 H3 X.xe I3 (stat fr3) st3 go) fun r s4 ⟨u, hr, h4⟩ => ?_)
    subst hr
    refine wpAny_passesOwn hp (thn h4 fun _ s5 ⟨x, H5, I5, r5, y5, st5, fr5⟩ => ?_)
    have I5' := I5.pinned (stat fr5) (T.obj _ _ st5)
    refine wpAny_passesOwn hp (thn (hg _ s5 σ3 H5 x u _ I5' r5 (step x H5 y5)) fun _ s6 ⟨σ6, H6, I6, q6⟩ => ?_)
    refine wpAny_passesOwn hp (thn (hb _ s6 σ6 H6 _ I6 q6) fun f s7 q7 => ?_)
    have again : ∀ {σ7 : St} {H7 : Hp}, Inv X (pins ++ pinsAt fp s5.heap) σ7 H7 s7 → N σ7 H7 → ∃ m, m < n ∧ ∃ i σ' H', Inv X pins σ' H' s7 ∧ tn i s7.heap ∧ (∀ b ∈ fp, H' b = none) ∧ W i m σ' H' := fun {σ7 H7} I7 n7 => by
      obtain ⟨m', hm, w7⟩ := hN σ7 H7 n7
      refine ⟨m', hm, i + 1, σ7, H7, I7.unpinned, T.keep _ _ _ st5 fun b hb o e => (I7.pin (b, o) (List.mem_append_right _ (List.mem_append_right _ (mem_pinsAt hb e)))).1, fun b hb => ?_, w7⟩
      obtain ⟨o, e, d⟩ := T.obj _ _ st5 b hb
      exact (I7.pin (b, o) (List.mem_append_right _ (List.mem_append_right _ (mem_pinsAt hb e)))).2.1
    cases f with
    | next => obtain ⟨σ7, H7, I7, n7⟩ := q7; exact again I7 n7
    | cont => obtain ⟨σ7, H7, I7, n7⟩ := q7; exact again I7 n7
    | brk => obtain ⟨σ7, H7, I7, q7⟩ := q7; exact ⟨σ7, H7, I7.unpinned, q7⟩
    | ret v => obtain ⟨x7, σ7, H7, I7, r7, q7⟩ := q7; exact ⟨x7, σ7, H7, I7.unpinned, r7, q7⟩
end

/-! ### the forms one uses -/
theorem for_tup {K : PySem.W.Frag} {a : Addr} {xs : List V} {g : TG} {tb : TS} {D : Ends} {σ : St} {H : Hp} (Pv : Nat → St → Hp → Prop) (h0 : Pv 0 σ H) (hl : ∀ i σ H, i ≤ xs.length → Pv i σ H → SqT K H a xs)
    (hs : ∀ i x σ H, xs[i]? = some x → Pv i σ H → g x σ H fun σ2 H2 => tb { D with nx := Pv (i + 1), ct := Pv (i + 1), bk := D.nx } σ2 H2) (hd : ∀ σ H, Pv xs.length σ H → D.nx σ H) :
    ∃ W : Nat → Nat → St → Hp → Prop, (∃ m, W 0 m σ H) ∧ ∀ i m σ H, W i m σ H →
      ((Itt K a).stop i H ∧ D.nx σ H) ∨ ((Itt K a).go i H ∧ ∃ N : St → Hp → Prop, (∀ σ' H', N σ' H' → ∃ m', m' < m ∧ W (i + 1) m' σ' H') ∧ ∀ x H', (Itt K a).yld i H x H' → g x σ H' fun σ2 H2 => tb { D with nx := N, ct := N, bk := D.nx } σ2 H2) := by
  refine ⟨fun i m σ H => m = xs.length - i ∧ i ≤ xs.length ∧ Pv i σ H, ⟨xs.length, by simp, Nat.zero_le _, h0⟩, ?_⟩
  rintro i m σ H ⟨rfl, hi, p⟩
  have q := hl i σ H hi p
  by_cases hlt : i < xs.length
  · refine .inr ⟨⟨xs, xs[i], q, by simp [hlt]⟩, Pv (i + 1), fun σ' H' p' => ⟨xs.length - (i + 1), by omega, rfl, hlt, p'⟩, fun x H' y => ?_⟩
    obtain ⟨e, y⟩ := y
    subst e
    exact hs i x σ _ (y xs q) p
  · have e : i = xs.length := by omega
    subst e
    exact .inl ⟨⟨xs, q, Nat.le_refl _⟩, hd σ H p⟩
theorem for_range {lo : Int} {n : Nat} {g : TG} {tb : TS} {D : Ends} {σ : St} {H : Hp} (Pv : Nat → St → Hp → Prop) (h0 : Pv 0 σ H)
    (hs : ∀ i σ H, i < n → Pv i σ H → g (.int (lo + i)) σ H fun σ2 H2 => tb { D with nx := Pv (i + 1), ct := Pv (i + 1), bk := D.nx } σ2 H2) (hd : ∀ σ H, Pv n σ H → D.nx σ H) :
    ∃ W : Nat → Nat → St → Hp → Prop, (∃ m, W 0 m σ H) ∧ ∀ i m σ H, W i m σ H →
      ((Itr lo n).stop i H ∧ D.nx σ H) ∨ ((Itr lo n).go i H ∧ ∃ N : St → Hp → Prop, (∀ σ' H', N σ' H' → ∃ m', m' < m ∧ W (i + 1) m' σ' H') ∧ ∀ x H', (Itr lo n).yld i H x H' → g x σ H' fun σ2 H2 => tb { D with nx := N, ct := N, bk := D.nx } σ2 H2) := by
  refine ⟨fun i m σ H => m = n - i ∧ i ≤ n ∧ Pv i σ H, ⟨n, by simp, Nat.zero_le _, h0⟩, ?_⟩
  rintro i m σ H ⟨rfl, hi, p⟩
  by_cases hlt : i < n
  · refine .inr ⟨hlt, Pv (i + 1), fun σ' H' p' => ⟨n - (i + 1), by omega, rfl, hlt, p'⟩, fun x H' y => ?_⟩
    obtain ⟨e, y⟩ := y
    subst e y
    exact hs i σ _ hlt p
  · have e : i = n := by omega
    subst e
    exact .inl ⟨Nat.le_refl _, hd σ H p⟩
end L2

namespace L2
open PySem PySem.Spec PyProof.Rows

abbrev R2 := V → V → Hp → VK → Prop
/-- a two-place operation on values: f is binaryOp op, inplaceOp op or compareOp op -/
def OpR (X : Cx) (f : Value → Value → Sem Value) (r : R2) : Prop :=
  ∀ (pins : List (Addr × Obj)) (s : Shared) (σ : St) (H : Hp) (x y : V) (v u : Value) (Q : VK), Inv X pins σ H s → RelV x v → RelV y u → r x y H Q →
    wpAny (model X.prog X.w) X.A (f v u) (EP X pins σ Q) X.xe s
/-- a one-place operation -/
def UnR (X : Cx) (f : Value → Sem Value) (r : V → Hp → VK → Prop) : Prop :=
  ∀ (pins : List (Addr × Obj)) (s : Shared) (σ : St) (H : Hp) (x : V) (v : Value) (Q : VK), Inv X pins σ H s → RelV x v → r x H Q →
    wpAny (model X.prog X.w) X.A (f v) (EP X pins σ Q) X.xe s
/-- a call of a value that is known (a builtin, a type) with values -/
def CallR (X : Cx) (f : Value) (r : List V → Hp → VK → Prop) : Prop :=
  ∀ (pins : List (Addr × Obj)) (s : Shared) (σ : St) (H : Hp) (xs : List V) (us : List Value) (Q : VK), Inv X pins σ H s → Vals xs us → r xs H Q →
    wpAny (model X.prog X.w) X.A (call f us) (EP X pins σ Q) X.xe s
def tOp (r : R2) (ta tb : TE) : TE := fun σ H Q => ta σ H fun x H1 => tb σ H1 fun y H2 => r x y H2 Q
def tUn (r : V → Hp → VK → Prop) (ta : TE) : TE := fun σ H Q => ta σ H fun x H1 => r x H1 Q
/-- ints in, under C, and a value out -/
def rI (C : Int → Int → Prop) (g : Int → Int → V) : R2 := fun x y H Q => ∃ i j, x = .int i ∧ y = .int j ∧ C i j ∧ Q (g i j) H
def rI0 (g : Int → Int → V) : R2 := fun x y H Q => ∃ i j, x = .int i ∧ y = .int j ∧ Q (g i j) H
def rU (g : Int → V) : V → Hp → VK → Prop := fun x H Q => ∃ i, x = .int i ∧ Q (g i) H

section
variable {X : Cx} {a b c : Expr} {ta tb tc : TE} {pos : Pos}

theorem binT (ha : PE X a ta) (hb : PE X b tb) {pins : List (Addr × Obj)} {s : Shared} {σ : St} {H : Hp} {R : V → V → Hp → Prop} (I : Inv X pins σ H s)
    (h : ta σ H fun x H1 => tb σ H1 fun y H2 => R x y H2) {Q : Value → Shared → Prop} {f : Value → Value → Sem Value}
    (hf : ∀ v u s2 x y H2, Inv X pins σ H2 s2 → RelV x v → RelV y u → R x y H2 → wpAny (model X.prog X.w) X.A (f v u) Q X.xe s2) :
    wpAny (model X.prog X.w) X.A (eval a X.env) (fun v s₁ => wpAny (model X.prog X.w) X.A (eval b X.env) (fun u s₂ => wpAny (model X.prog X.w) X.A (f v u) Q X.xe s₂) X.xe s₁) X.xe s := by
  refine thn (ha pins s σ H _ I h) fun v s1 ⟨x, H1, I1, r1, q1⟩ => ?_
  refine thn (hb pins s1 σ H1 _ I1 q1) fun u s2 ⟨y, H2, I2, r2, q2⟩ => ?_
  exact hf v u s2 x y H2 I2 r1 r2 q2

theorem pe_op {op : Operator} {r : R2} (ho : OpR X (binaryOp op) r) (ha : PE X a ta) (hb : PE X b tb) : PE X (.BinOp a op b pos) (tOp r ta tb) := by
  intro pins s σ H Q I h
  exact wpAny_BinOp (binT ha hb I h fun v u s2 x y H2 I2 rx ry q => ho pins s2 σ H2 x y v u Q I2 rx ry q)
theorem pe_un {op : UnaryOp} {r : V → Hp → VK → Prop} (ho : UnR X (unaryOp op) r) (ha : PE X a ta) : PE X (.UnaryOp op a pos) (tUn r ta) := by
  intro pins s σ H Q I h
  exact UnaryOp_ (thn (ha pins s σ H _ I h) fun v s1 ⟨x, H1, I1, r1, q1⟩ => ho pins s1 σ H1 x v Q I1 r1 q1)
/-! ### ints -/
theorem opI {f : Value → Value → Sem Value} {C : Int → Int → Prop} {g : Int → Int → Int}
    (rule : ∀ (i j : Int) (t u : Tok) (s : Shared) (Q : Value → Shared → Prop) (E : Value → Shared → Prop), C i j → Q (.int (g i j) s.toks) { s with toks := s.toks + 1 } → wpAny (model X.prog X.w) X.A (f (.int i t) (.int j u)) Q E s) :
    OpR X f (rI C fun i j => .int (g i j)) := by
  intro pins s σ H x y v u Q I rx ry h
  obtain ⟨i, j, rfl, rfl, hc, q⟩ := h
  obtain ⟨t, rfl⟩ := rx
  obtain ⟨t', rfl⟩ := ry
  exact rule i j t t' s _ _ hc ⟨.int (g i j), H, I.tok _, ⟨_, rfl⟩, q⟩
theorem opI0 {f : Value → Value → Sem Value} {g : Int → Int → Int}
    (rule : ∀ (i j : Int) (t u : Tok) (s : Shared) (Q : Value → Shared → Prop) (E : Value → Shared → Prop), Q (.int (g i j) s.toks) { s with toks := s.toks + 1 } → wpAny (model X.prog X.w) X.A (f (.int i t) (.int j u)) Q E s) :
    OpR X f (rI0 fun i j => .int (g i j)) := by
  intro pins s σ H x y v u Q I rx ry h
  obtain ⟨i, j, rfl, rfl, q⟩ := h
  obtain ⟨t, rfl⟩ := rx
  obtain ⟨t', rfl⟩ := ry
  exact rule i j t t' s _ _ ⟨.int (g i j), H, I.tok _, ⟨_, rfl⟩, q⟩
theorem opB0 {f : Value → Value → Sem Value} {g : Int → Int → Bool}
    (rule : ∀ (i j : Int) (t u : Tok) (s : Shared) (Q : Value → Shared → Prop) (E : Value → Shared → Prop), Q (.bool (g i j)) s → wpAny (model X.prog X.w) X.A (f (.int i t) (.int j u)) Q E s) :
    OpR X f (rI0 fun i j => .bl (g i j)) := by
  intro pins s σ H x y v u Q I rx ry h
  obtain ⟨i, j, rfl, rfl, q⟩ := h
  obtain ⟨t, rfl⟩ := rx
  obtain ⟨t', rfl⟩ := ry
  exact rule i j t t' s _ _ ⟨.bl (g i j), H, I, rfl, q⟩

def CDiv (i j : Int) : Prop := 0 < j ∧ j < 1073741824
def CPow (i j : Int) : Prop := 0 ≤ j ∧ j ≤ 1000000 ∧ i.natAbs < 2 ^ 64
def CMul (i j : Int) : Prop := (-(2 ^ 64) < i ∧ i < 2 ^ 64) ∨ (-(2 ^ 64) < j ∧ j < 2 ^ 64)
theorem CMul.ok {i j : Int} (h : CMul i j) : IntMulOk i j := by
  rcases h with ⟨h1, h2⟩ | ⟨h1, h2⟩
  · exact .of_left (intBits_le_64 h1 h2)
  · exact .of_right (intBits_le_64 h1 h2)
theorem op_add : OpR X (binaryOp .Add) (rI0 fun i j => .int (i + j)) := opI0 fun _ _ _ _ _ _ _ q => add_int q
theorem op_sub : OpR X (binaryOp .Sub) (rI0 fun i j => .int (i - j)) := opI0 fun _ _ _ _ _ _ _ q => sub_int q
theorem op_mul : OpR X (binaryOp .Mult) (rI CMul fun i j => .int (i * j)) := opI fun _ _ _ _ _ _ _ hc q => mul_int q hc.ok
/-- // by a positive divisor -/
theorem op_fdiv : OpR X (binaryOp .FloorDiv) (rI CDiv fun i j => .int (i / j)) := opI fun i j _ _ _ _ _ hc q => by
  have h1 : (0 : Int) < j := hc.1
  have h2 : j < 1073741824 := hc.2
  exact floordiv_int (by omega) (by rw [Int.fdiv_eq_ediv_of_nonneg i (by omega)]; exact q) (.inl (PyProof.noPylong_small (by omega)))
/-- % by a positive divisor of any size -/
theorem op_mod : OpR X (binaryOp .Mod) (rI (fun _ j => 0 < j) fun i j => .int (i % j)) := opI fun i j _ _ _ _ _ hc q => by
  have h1 : (0 : Int) < j := hc
  exact mod_int' (by omega) (by rw [Int.fmod_eq_emod_of_nonneg i (by omega)]; exact q)
theorem op_pow : OpR X (binaryOp .Pow) (rI CPow fun i j => .int (i ^ j.toNat)) := opI fun _ _ _ _ _ _ _ hc q => pow_int_small hc.1 hc.2.1 hc.2.2 q
theorem unI {f : Value → Sem Value} {g : Int → Int}
    (rule : ∀ (i : Int) (t : Tok) (s : Shared) (Q : Value → Shared → Prop) (E : Value → Shared → Prop), Q (.int (g i) s.toks) { s with toks := s.toks + 1 } → wpAny (model X.prog X.w) X.A (f (.int i t)) Q E s) :
    UnR X f (rU fun i => .int (g i)) := by
  intro pins s σ H x v Q I rx h
  obtain ⟨i, rfl, q⟩ := h
  obtain ⟨t, rfl⟩ := rx
  exact rule i t s _ _ ⟨.int (g i), H, I.tok _, ⟨_, rfl⟩, q⟩
theorem un_neg : UnR X (unaryOp .USub) (rU fun i => .int (-i)) := unI fun _ _ _ _ _ q => neg_int q
/-! ### bools among ints: n += (a < b) -/
end

/-! ### comparisons -/
/-- the scalars that == tells apart as data does -/
def scal : V → V → Bool
  | .non, .non => true | .non, .int _ => true | .int _, .non => true | .non, .bl _ => true | .bl _, .non => true | .non, .str _ => true | .str _, .non => true
  | .int _, .int _ => true | .bl _, .bl _ => true | .str _, .str _ => true | .byt _, .byt _ => true
  | .int _, .str _ => true | .str _, .int _ => true | .bl _, .str _ => true | .str _, .bl _ => true
  | _, _ => false
def rEq : R2 := fun x y H Q => scal x y = true ∧ Q (.bl (decide (x = y))) H
def rNe : R2 := fun x y H Q => scal x y = true ∧ Q (.bl (!decide (x = y))) H

theorem dec_int {i j : Int} : decide (V.int i = V.int j) = (i == j) := by
  rw [Bool.eq_iff_iff]
  simp
theorem dec_bl {i j : Bool} : decide (V.bl i = V.bl j) = (i == j) := by
  rw [Bool.eq_iff_iff]
  simp
theorem dec_str {i j : Str} : decide (V.str i = V.str j) = (i == j) := by
  rw [Bool.eq_iff_iff]
  simp
theorem dec_byt {i j : Array UInt8} : decide (V.byt i = V.byt j) = (i.toList == j.toList) := by
  rw [Bool.eq_iff_iff]
  cases i
  cases j
  simp

section
variable {X : Cx} {a b c : Expr} {ta tb tc : TE} {pos : Pos}
theorem fin_bl {pins : List (Addr × Obj)} {σ : St} {H : Hp} {s : Shared} {Q : VK} {k k' : Bool} (I : Inv X pins σ H s) (q : Q (.bl k) H) (e : k = k') : EP X pins σ Q (.bool k') s := by
  subst e
  exact ⟨.bl k, H, I, rfl, q⟩
theorem op_eq : OpR X (compareOp .Eq) rEq := by
  intro pins s σ H x y v u Q I rx ry h
  obtain ⟨hs, q⟩ := h
  cases x with
  | non =>
    cases rx
    cases y with
    | non => cases ry; exact PySem.EqNone.eq_none_none (fin_bl I q (by simp))
    | bl j => cases ry; exact PySem.EqNone.eq_none_bool (fin_bl I q (by simp))
    | int j => obtain ⟨t', rfl⟩ := ry; exact PySem.EqNone.eq_none_int (fin_bl I q (by simp))
    | str j => obtain ⟨t', rfl⟩ := ry; exact PySem.EqNone.eq_none_str (fin_bl I q (by simp))
    | _ => exact absurd (show false = true from hs) Bool.false_ne_true
  | bl i =>
    cases rx
    cases y with
    | non => cases ry; exact PySem.EqNone.eq_bool_none (fin_bl I q (by simp))
    | bl j => cases ry; exact eq_bool (fin_bl I q dec_bl)
    | str j => obtain ⟨t', rfl⟩ := ry; exact PySem.EqMixed.eq_bool_str (fin_bl I q (by simp))
    | _ => exact absurd (show false = true from hs) Bool.false_ne_true
  | int i =>
    obtain ⟨t, rfl⟩ := rx
    cases y with
    | non => cases ry; exact PySem.EqNone.eq_int_none (fin_bl I q (by simp))
    | int j => obtain ⟨t', rfl⟩ := ry; exact eq_int (fin_bl I q dec_int)
    | str j => obtain ⟨t', rfl⟩ := ry; exact PySem.EqMixed.eq_int_str (fin_bl I q (by simp))
    | _ => exact absurd (show false = true from hs) Bool.false_ne_true
  | str i =>
    obtain ⟨t, rfl⟩ := rx
    cases y with
    | non => cases ry; exact PySem.EqNone.eq_str_none (fin_bl I q (by simp))
    | bl j => cases ry; exact PySem.EqMixed.eq_str_bool (fin_bl I q (by simp))
    | int j => obtain ⟨t', rfl⟩ := ry; exact PySem.EqMixed.eq_str_int (fin_bl I q (by simp))
    | str j => obtain ⟨t', rfl⟩ := ry; exact eq_str (fin_bl I q dec_str)
    | _ => exact absurd (show false = true from hs) Bool.false_ne_true
  | byt i =>
    obtain ⟨t, rfl⟩ := rx
    cases y with
    | byt j => obtain ⟨t', rfl⟩ := ry; exact PySem.W.eq_bytes (fin_bl I q dec_byt)
    | _ => exact absurd (show false = true from hs) Bool.false_ne_true
  | _ => cases y <;> exact absurd (show false = true from hs) Bool.false_ne_true
theorem op_ne : OpR X (compareOp .NotEq) rNe := by
  intro pins s σ H x y v u Q I rx ry h
  obtain ⟨hs, q⟩ := h
  cases x with
  | non =>
    cases rx
    cases y with
    | non => cases ry; exact PySem.EqNone.ne_none_none (fin_bl I q (by simp))
    | bl j => cases ry; exact PySem.EqNone.ne_none_bool (fin_bl I q (by simp))
    | int j => obtain ⟨t', rfl⟩ := ry; exact PySem.EqNone.ne_none_int (fin_bl I q (by simp))
    | str j => obtain ⟨t', rfl⟩ := ry; exact PySem.EqNone.ne_none_str (fin_bl I q (by simp))
    | _ => exact absurd (show false = true from hs) Bool.false_ne_true
  | bl i =>
    cases rx
    cases y with
    | non => cases ry; exact PySem.EqNone.ne_bool_none (fin_bl I q (by simp))
    | bl j => cases ry; exact ne_bool (fin_bl I q (congrArg not dec_bl))
    | str j => obtain ⟨t', rfl⟩ := ry; exact PySem.EqMixed.ne_bool_str (fin_bl I q (by simp))
    | _ => exact absurd (show false = true from hs) Bool.false_ne_true
  | int i =>
    obtain ⟨t, rfl⟩ := rx
    cases y with
    | non => cases ry; exact PySem.EqNone.ne_int_none (fin_bl I q (by simp))
    | int j => obtain ⟨t', rfl⟩ := ry; exact ne_int (fin_bl I q (congrArg not dec_int))
    | str j => obtain ⟨t', rfl⟩ := ry; exact PySem.EqMixed.ne_int_str (fin_bl I q (by simp))
    | _ => exact absurd (show false = true from hs) Bool.false_ne_true
  | str i =>
    obtain ⟨t, rfl⟩ := rx
    cases y with
    | non => cases ry; exact PySem.EqNone.ne_str_none (fin_bl I q (by simp))
    | bl j => cases ry; exact PySem.EqMixed.ne_str_bool (fin_bl I q (by simp))
    | int j => obtain ⟨t', rfl⟩ := ry; exact PySem.EqMixed.ne_str_int (fin_bl I q (by simp))
    | str j => obtain ⟨t', rfl⟩ := ry; exact ne_str (fin_bl I q (congrArg not dec_str))
    | _ => exact absurd (show false = true from hs) Bool.false_ne_true
  | byt i =>
    obtain ⟨t, rfl⟩ := rx
    cases y with
    | byt j => obtain ⟨t', rfl⟩ := ry; exact PySem.W.ne_bytes (fin_bl I q (congrArg not dec_byt))
    | _ => exact absurd (show false = true from hs) Bool.false_ne_true
  | _ => cases y <;> exact absurd (show false = true from hs) Bool.false_ne_true

theorem op_lt : OpR X (compareOp .Lt) (rI0 fun i j => .bl (decide (i < j))) := opB0 fun _ _ _ _ _ _ _ q => lt_int q
theorem op_le : OpR X (compareOp .LtE) (rI0 fun i j => .bl (decide (i ≤ j))) := opB0 fun _ _ _ _ _ _ _ q => le_int q
theorem op_gt : OpR X (compareOp .Gt) (rI0 fun i j => .bl (decide (j < i))) := opB0 fun _ _ _ _ _ _ _ q => gt_int q
theorem op_ge : OpR X (compareOp .GtE) (rI0 fun i j => .bl (decide (j ≤ i))) := opB0 fun _ _ _ _ _ _ _ q => ge_int q
theorem nomark (b : Expr) {op : CmpOp} (h : op ≠ .In := by decide) (h2 : op ≠ .NotIn := by decide) : behindInMarks op b = false := by
  have e1 : (op == CmpOp.In) = false := by cases op <;> first | rfl | exact absurd rfl h
  have e2 : (op == CmpOp.NotIn) = false := by cases op <;> first | rfl | exact absurd rfl h2
  cases b <;> simp [behindInMarks, e1, e2]
/-- a comparison as a value; hm: nomark b, or (for in, not in) by with_unfolding_all rfl -/
theorem pe_cmpR {op : CmpOp} {r : R2} (ho : OpR X (compareOp op) r) (ha : PE X a ta) (hb : PE X b tb) (hm : behindInMarks op b = false) : PE X (.Compare a [op] [b] pos) (tOp r ta tb) := by
  intro pins s σ H Q I h
  exact wpAny_Compare1 (binT ha hb I h fun v u s2 x y H2 I2 rx ry q => ho pins s2 σ H2 x y v u Q I2 rx ry q) hm
/-- a reading of a value as a test -/
def tTest (t : TE) : TT := fun σ H Q => t σ H fun x H' => ∃ k, x = .bl k ∧ Q k H'
theorem pt_cmpR {op : CmpOp} {r : R2} (ho : OpR X (compareOp op) r) (ha : PE X a ta) (hb : PE X b tb) (hm : behindInMarks op b = false) : PT X (.Compare a [op] [b] pos) (tTest (tOp r ta tb)) := by
  intro pins s σ H Q I h
  refine wpAny_isTrue_Compare1 (thn (ha pins s σ H _ I h) fun v s1 ⟨x, H1, I1, r1, q1⟩ => thn (hb pins s1 σ H1 _ I1 q1) fun u s2 ⟨y, H2, I2, r2, q2⟩ =>
    thn (ho pins s2 σ H2 x y v u _ I2 r1 r2 q2) fun c s3 ⟨z, H3, I3, r3, k, e, q3⟩ => ?_) hm
  subst e
  cases r3
  exact wpAny_truthy_bool ⟨H3, I3, q3⟩
/-- a op1 b op2 c -/
def tChain (r r' : R2) (ta tb tc : TE) : TE := fun σ H Q => ta σ H fun x H1 => tb σ H1 fun y H2 => r x y H2 fun z H3 => ∃ k, z = .bl k ∧
  (if k = true then tc σ H3 fun w' H4 => r' y w' H4 Q else Q (.bl false) H3)
theorem pe_chain {op op' : CmpOp} {r r' : R2} (ho : OpR X (compareOp op) r) (ho' : OpR X (compareOp op') r') (ha : PE X a ta) (hb : PE X b tb) (hc : PE X c tc)
    (hm : lastMarks [op, op'] [b, c] = false := by with_unfolding_all rfl) : PE X (.Compare a [op, op'] [b, c] pos) (tChain r r' ta tb tc) := by
  intro pins s σ H Q I h
  refine Compare_chain (thn (ha pins s σ H _ I h) fun v s1 ⟨x, H1, I1, r1, q1⟩ => chain_link (thn (hb pins s1 σ H1 _ I1 q1) fun u s2 ⟨y, H2, I2, r2, q2⟩ =>
    thn (ho pins s2 σ H2 x y v u _ I2 r1 r2 q2) fun d s3 ⟨z, H3, I3, r3, k, e, q3⟩ => ?_)) hm
  subst e
  cases r3
  refine wpAny_truthy_bool ?_
  cases k with
  | false => exact ite_ff ⟨.bl false, H3, I3, rfl, q3⟩
  | true => exact ite_tt (chain_last (thn (hc pins s3 σ H3 _ I3 q3) fun w' s4 ⟨z', H4, I4, r4, q4⟩ => ho' pins s4 σ H4 y z' u w' Q I4 r2 r4 q4))
/-! ### truth -/
theorem line63 : (sizeLine : Nat) < 2 ^ 63 := by rw [sizeLine_eq]; decide
/-! ### strs and bytes -/
/-! ### scalar builtins, by CallR -/
theorem vals1 {x : V} {us : List Value} (r : Vals [x] us) : ∃ u, us = [u] ∧ RelV x u := by
  cases r with
  | cons r1 r2 => cases r2; exact ⟨_, rfl, r1⟩
theorem vals2 {x y : V} {us : List Value} (r : Vals [x, y] us) : ∃ u w', us = [u, w'] ∧ RelV x u ∧ RelV y w' := by
  cases r with
  | cons r1 r2 =>
    cases r2 with
    | cons r3 r4 => cases r4; exact ⟨_, _, rfl, r1, r3⟩
theorem call_abs : CallR X (.builtin "abs") (fun xs H Q => ∃ i, xs = [.int i] ∧ Q (.int (if i < 0 then -i else i)) H) := by
  intro pins s σ H xs us Q I r h
  obtain ⟨i, rfl, q⟩ := h
  obtain ⟨u, rfl, t, rfl⟩ := vals1 r
  exact call_abs_int fun u tk => ⟨.int (if i < 0 then -i else i), H, I.tok _, ⟨_, rfl⟩, q⟩
theorem call_int1 : CallR X (.type "int") (fun xs H Q => (∃ i, xs = [.int i] ∧ Q (.int i) H) ∨ ∃ k, xs = [.bl k] ∧ Q (.int (if k then 1 else 0)) H) := by
  intro pins s σ H xs us Q I r h
  rcases h with ⟨i, rfl, q⟩ | ⟨k, rfl, q⟩
  · obtain ⟨u, rfl, t, rfl⟩ := vals1 r
    exact call_int_int ⟨.int i, H, I, ⟨_, rfl⟩, q⟩
  · obtain ⟨u, rfl, r1⟩ := vals1 r
    cases r1
    exact call_int_bool ⟨.int (if k then 1 else 0), H, I.tok _, ⟨_, rfl⟩, q⟩
/-- divmod: a new tuple -/
theorem call_divmod : CallR X (.builtin "divmod") (fun xs H Q => ∃ i j, xs = [.int i, .int j] ∧ CDiv i j ∧ ∀ p, H p = none → Q (.ref p) (upd H p (.tup [.int (i / j), .int (i % j)]))) := by
  intro pins s σ H xs us Q I r h
  obtain ⟨i, j, rfl, ⟨h1, h2⟩, q⟩ := h
  obtain ⟨u, w', rfl, ⟨t, rfl⟩, ⟨t', rfl⟩⟩ := vals2 r
  refine divmod_int (by omega) ?_ (.inl (PyProof.noPylong_small (by omega)))
  rw [Int.fdiv_eq_ediv_of_nonneg i (by omega), Int.fmod_eq_emod_of_nonneg i (by omega)]
  have hn : H s.heap.objs.size = none := I.hok.fresh (Nat.le_refl _)
  refine ⟨.ref s.heap.objs.size, _, ?_, rfl, q _ hn⟩
  refine I.laid (fun b o e => Heap.get?_push_of_some _ e) (Nat.le_refl _) ⟨by simp only [List.length_cons, List.length_nil]; rw [sizeLine_eq]; decide, [.int (i / j) s.toks, .int (i % j) (s.toks + 1)], .cons ⟨_, rfl⟩ (.cons ⟨_, rfl⟩ .nil), ?_⟩
  exact ⟨_, Heap.get?_push_size s.heap rfl, rfl, 0, rfl⟩
end
end L2

namespace L2
open PySem PySem.Spec PyProof.Rows

/-! ### an instance, its attributes a map -/
structure ObjM (h : Heap) (x dx C : Addr) (mA : Str → Option Value) : Prop where
  obj : h.get? x = some (PySem.W.instObj C dx)
  ns : h.Ns1 dx mA
  ne : dx ≠ x

section
variable {prog : Program} {w : World} {A : Around} {E : Value → Shared → Prop} {s : Shared} {K : PySem.W.Frag} {x dx C f : Addr} {mA : Str → Option Value} {name : Str} {v : Value}

end

/-! ### the attributes as a list of pairs -/
theorem RelO.some_of {v : V} {o : Option Value} (r : RelO (some v) o) : ∃ u, o = some u ∧ RelV v u := by
  cases o with
  | none => exact (show False from r).elim
  | some u => exact ⟨u, rfl, r⟩
section
variable {P : Program} {w : World} {H H' : Hp} {h h' : Heap} {a C dx : Addr} {fs fs' : List (Str × V)}
end

/-! ### what of the text a class must have -/
structure Cls (K : PySem.W.Frag) (C : Addr) : Prop where
  pg : PySem.W.plainGet K C Str.empty = true
  hd : PySem.W.hasDictIn K C = true
  po : PySem.W.plainOver K C = true
  sa : PySem.W.findIn K (.ref C) "__setattr__" = some (some (.builtin "object.__setattr__"))
/-- a constant of the class -/
structure Con (K : PySem.W.Frag) (C : Addr) (f : Str) (v : V) (u : Value) : Prop where
  at_ : PySem.W.findIn K (.ref C) f = some (some u)
  rel : RelV v u
  get : PySem.W.specialIn K u "__get__" = some none
  cp : PySem.W.copiedNames.contains f = false
/-- a method: a plain def of the class or of one above it -/
structure Meth (K : PySem.W.Frag) (C : Addr) (m : Str) (f : Addr) : Prop where
  at_ : PySem.W.findIn K (.ref C) m = some (some (.ref f))
  fn : PySem.W.isFn K (.ref f) = true
  kp : PySem.W.keepIn K (.ref f) = true

section
variable {X : Cx} {pins : List (Addr × Obj)} {σ : St} {H : Hp} {s : Shared} {a C dx : Addr} {fs : List (Str × V)} {f : Str} {v : V} {A : Around} {E : Value → Shared → Prop}

end

/-! ### readings and rules -/
section
variable {X : Cx} {o e value : Expr} {f : Str} {pos pos' tpos : Pos} {ta tv : TE}
end

/-! ### isinstance -/
section
variable {X : Cx} {pins : List (Addr × Obj)} {σ : St} {H : Hp} {s : Shared} {A : Around} {E : Value → Shared → Prop} {Q : Value → Shared → Prop} {c : Value} {b : Bool}
/-- the type of a value, as the fragment's deciders take it; for an instance its class -/
inductive TyOf (K : PySem.W.Frag) (H : Hp) : V → Value → Prop where
  | non : TyOf K H .non (.type "NoneType")
  | bl (x : Bool) : TyOf K H (.bl x) (.type "bool")
  | int (i : Int) : TyOf K H (.int i) (.type "int")
  | str (x : Str) : TyOf K H (.str x) (.type "str")
  | flt (x : UInt64) : TyOf K H (.flt x) (.type "float")
  | lst {a : Addr} {xs : List V} (e : H a = some (.lst xs)) : TyOf K H (.ref a) (.type "list")
  | frz {a : Addr} {o : Obj} {xs : List V} (e : H a = some (.frz o (.lst xs))) : TyOf K H (.ref a) (.type "list")
  | tup {a : Addr} {xs : List V} (e : H a = some (.tup xs)) : TyOf K H (.ref a) (.type "tuple")
  | dK {a : Addr} {kvs : List (Key × V)} (e : H a = some (.dK kvs)) : TyOf K H (.ref a) (.type "dict")
  | dT {a : Addr} {kvs : List (List Key × V)} (e : H a = some (.dT kvs)) : TyOf K H (.ref a) (.type "dict")
  | ins {a C dx : Addr} {fs : List (Str × V)} (e : H a = some (.ins C dx fs)) (cl : Cls K C) (ha : PySem.W.findIn K (.ref C) "__class__" = some (some (.builtin "object.__class__")))
      (hn : PySem.W.specialIn K (.builtin "object.__class__") "__get__" = some (some (.builtin "getset_descriptor.__get__"))) (htk : PySem.W.takesIn K (.builtin "object.__class__") = some true)
      (hm : PySem.W.mroIn K C (.type "object") = some true) : TyOf K H (.ref a) (.ref C)
end
end L2

namespace L2
open PySem PySem.Spec PyProof.Rows

/-! ### room -/
structure Room (k : Nat) (A : Around) : Prop where
  hd : A.handled = none
  dp : A.depth + 3 * k + 5 < recursionLimit
  un : A.units + 16 * k + 200 < cLine
theorem Room.mono {j k : Nat} {A : Around} (r : Room k A) (h : j ≤ k) : Room j A := ⟨r.hd, by have := r.dp; omega, by have := r.un; omega⟩
theorem Room.deeper {k : Nat} {A : Around} (r : Room (k + 1) A) (env : Env) : Room k (A.deeper env) :=
  ⟨r.hd, by have := r.dp; show A.depth + 1 + 3 * k + 5 < _; omega, by have := r.un; show A.units + 3 + 16 * k + 200 < _; omega⟩
theorem Room.depth {k : Nat} {A : Around} (r : Room k A) : A.depth < recursionLimit := by have := r.dp; omega
theorem Room.units {k : Nat} {A : Around} (r : Room k A) : A.units + 64 < cLine := by have := r.un; omega
/-! ### argument lists and displays -/
def tNil : TA := fun _ H Q => Q [] H
def tCons (ta : TE) (tr : TA) : TA := fun σ H Q => ta σ H fun x H1 => tr σ H1 fun xs H2 => Q (x :: xs) H2
section
variable {X : Cx} {e : Expr} {es : List Expr} {te : TE} {t : TA} {pos : Pos}
theorem pa_nil : PA X [] tNil := fun _ _ _ _ H Q I h => Calls.spliced_nil ⟨[], H, I, .nil, h⟩
theorem pa_cons (ha : PE X e te) (hr : PA X es t) (hs : starEach (e :: es) X.env = (false, eval e X.env) :: starEach es X.env := by rfl) : PA X (e :: es) (tCons te t) := by
  intro pos pins s σ H Q I h
  rw [hs]
  show wpAny _ _ (spliced ((false, eval e X.env) :: backTo pos (starEach es X.env))) _ _ s
  refine Calls.spliced_cons (thn (ha pins s σ H _ I h) fun u s1 ⟨x, H1, I1, r1, q1⟩ => ?_)
  exact thn (hr pos pins s1 σ H1 _ I1 q1) fun us s2 ⟨xs, H2, I2, r2, q2⟩ => ⟨x :: xs, H2, I2, .cons r1 r2, q2⟩

def tLst (t : TA) : TE := fun σ H Q => t σ H fun xs H1 => xs.length ≤ sizeLine ∧ ∀ p, H1 p = none → Q (.ref p) (upd H1 p (.lst xs))
theorem pe_lst (h : PA X es t) : PE X (.List es pos) (tLst t) := by
  intro pins s σ H Q I hq
  refine wpAny_List_spliced (thn (h pos pins s σ H _ I hq) fun us s1 ⟨xs, H1, I1, r, z, q⟩ => ⟨by rw [← r.length]; exact z, ?_⟩)
  have hf : H1 s1.heap.objs.size = none := I1.hok.fresh (Nat.le_refl _)
  refine ⟨.ref s1.heap.objs.size, upd H1 s1.heap.objs.size (.lst xs), I1.laid (t' := s1.toks) (fun b u e => Heap.get?_push_of_some _ e) (Nat.le_refl _) ?_, rfl, q _ hf⟩
  exact ⟨z, us, 0, r, Heap.get?_push_size _ rfl⟩
end

/-! ### what a def promises -/
/-- a def's promise: the bound arguments in the parameters' order, the heap, the wanted end, the wanted exception -/
abbrev Sp := List V → Hp → VK → XK → Prop
/-- how an exception lies behind a call (file 08 gives it): the callers' frames, abstract heap and state ahead of the call, the wish, the exception, the state -/
abbrev CXT := List Env → Hp → Shared → XK → Value → Shared → Prop

/-- the state at a call -/
structure Env0 (P : Program) (w : World) (K : PySem.W.Frag) (mg : Str → Option Value) (base : Heap) (A : Around) (outer : List Env) (s : Shared) (H : Hp) : Prop where
  frames : A.frames = some outer
  mod : Mod K mg base
  bs : ∀ b o, base.get? b = some o → s.heap.get? b = some o ∧ H b = none
  bsz : base.objs.size ≤ s.heap.objs.size
  funs : s.heap.FunFrames base outer
  frf : ∀ b ∈ frs outer, H b = none
  hok : HOk P w H s.heap
  bare : AllBare s.gens
/-- a call's end -/
def CE (outer : List Env) (P : Program) (w : World) (H : Hp) (s : Shared) (Q : VK) (u : Value) (s' : Shared) : Prop :=
  ∃ v H', s'.os = s.os ∧ AllBare s'.gens ∧ Un (frs outer) [] H H' s.heap s'.heap ∧ HOk P w H' s'.heap ∧ RelV v u ∧ Q v H'
def CR (CX : CXT) (outer : List Env) (P : Program) (w : World) (H : Hp) (s : Shared) (Q : VK) (E : XK) (r : Result) (s' : Shared) : Prop :=
  match r with
  | .ok (.ret u) => CE outer P w H s Q u s'
  | .ok _ => False
  | .error e => CX outer H s E e s'
structure FnOk (P : Program) (w : World) (K : PySem.W.Frag) (mg : Str → Option Value) (base : Heap) (CX : CXT) (k : Nat) (f : Addr) (fd : FuncData) (ps : List Str) (sp : Sp) : Prop where
  len : ∀ vs H Q E, sp vs H Q E → vs.length = ps.length
  run : ∀ (A : Around) (outer : List Env) (s : Shared) (H : Hp) (args : Args) (us : List Value) (vs : List V) (Q : VK) (E : XK), Room k A → Env0 P w K mg base A outer s H → BindsTo s fd args (ps.zip us) → Vals vs us → sp vs H Q E →
    codeAny (model P w) A (.call (.ref f) args) (CR CX outer P w H s Q E) s
section
variable {X : Cx} {pins : List (Addr × Obj)} {σ : St} {H : Hp} {s s' : Shared}
/-- from a body: what a callee wants -/
theorem Inv.env0 (I : Inv X pins σ H s) : Env0 X.prog X.w X.K X.mg X.base X.A X.stack s H :=
  ⟨I.ok.frames, I.ok.mod, I.bs, Nat.le_trans I.ok.bsz I.sz, I.stack, I.stkFree, I.hok, I.bare⟩
/-- behind a call -/
theorem Inv.after {Q : VK} {u : Value} (I : Inv X pins σ H s) (h : CE X.stack X.prog X.w H s Q u s') : EP X pins σ Q u s' := by
  obtain ⟨v, H', os, bare, un, hok, r, q⟩ := h
  obtain ⟨hh, g, d, t, os'⟩ := s'
  obtain rfl : os' = s.os := os
  exact ⟨v, H', I.call (h' := hh) (g' := g) (d' := d) (t' := t) (ch := []) un hok bare (fun b z => absurd z (by simp)), r, q⟩
end

/-! ### calls -/
/-- f(..): the written arguments, then the defaults dvs; E: what is wanted of an exception -/
def tCall (sp : Sp) (dvs : List V) (E : XK) (t : TA) : TE := fun σ H Q => t σ H fun vs H1 => sp (vs ++ dvs) H1 Q E
/-- how the parameters are bound: us the positional arguments, kw the keywords' values by name, ds the defaults that fill up -/
def Binds (K : PySem.W.Frag) (fd : FuncData) (ps : List Str) (ds : List Value) : Prop :=
  ∀ (s : Shared) (us : List Value), K.In s.heap → (us ++ ds).length = ps.length → BindsTo s fd ⟨us, []⟩ (ps.zip (us ++ ds))
/-- every parameter is given -/
theorem Binds.all {K : PySem.W.Frag} {fd : FuncData} {ps : List Str} (h : ∀ us : List Value, us.length = ps.length → bindArgs fd ⟨us, []⟩ = pure (ps.zip us)) : Binds K fd ps [] := fun s us _ hl => by
  rw [List.append_nil] at hl ⊢
  exact .of_eq (h us hl)

/-- an exception of a callee reaches what this body wants of exceptions -/
def Passes (CX : CXT) (X : Cx) (E : XK) : Prop := ∀ (pins : List (Addr × Obj)) (σ : St) (H : Hp) (s : Shared) (e : Value) (s' : Shared), Inv X pins σ H s → CX X.stack H s E e s' → X.xe e s'

section
variable {X : Cx} {CX : CXT} {k : Nat} {f C : Addr} {fd : FuncData} {ps : List Str} {sp : Sp} {dvs : List V} {ds : List Value} {E : XK} {x m : Str} {p pos apos : Pos} {e o : Expr} {es : List Expr} {ta : TE} {t : TA}

/-- the callee runs -/
theorem run_fn {pins : List (Addr × Obj)} {σ : St} {H : Hp} {s : Shared} {Q : VK} {us : List Value} {vs : List V} (F : FnOk X.prog X.w X.K X.mg X.base CX k f fd ps sp) (hr : Room k X.A) (hb : Binds X.K fd ps ds) (hd : Vals dvs ds) (hx : Passes CX X E)
    (I : Inv X pins σ H s) (r : Vals vs us) (h : sp (vs ++ dvs) H Q E) : wpAny (model X.prog X.w) X.A (call (.ref f) us) (EP X pins σ Q) X.xe s := by
  have r2 : Vals (vs ++ dvs) (us ++ ds) := r.append hd
  have hl : (us ++ ds).length = ps.length := by rw [← r2.length]; exact F.len _ _ _ _ h
  refine wpAny_call (codeAny_mono (F.run X.A X.stack s H ⟨us, []⟩ (us ++ ds) (vs ++ dvs) Q E hr I.env0 (hb s us I.kIn hl) r2 h) fun r s' hq => ?_)
  cases r with
  | error e => exact hx pins σ H s e s' I hq
  | ok fl =>
    cases fl with
    | ret u => exact I.after hq
    | next => exact False.elim hq
    | brk => exact False.elim hq
    | cont => exact False.elim hq

theorem pe_call (F : FnOk X.prog X.w X.K X.mg X.base CX k f fd ps sp) (hr : Room k X.A) (hg : Gl X x) (hm : X.mg x = some (.ref f)) (hk : PySem.W.keepIn X.K (.ref f) = true) (hb : Binds X.K fd ps ds) (hd : Vals dvs ds) (hx : Passes CX X E)
    (ha : PA X (e :: es) t) (hdb : (x == ("__debug__" : Str)) = false := by decide) (he : starEach (e :: es) X.env = (false, eval e X.env) :: starEach es X.env := by rfl) (hpl : (backTo pos (starEach es X.env)).any (·.1) = false := by rfl) :
    PE X (.Call (.Name x p) (e :: es) [] pos) (tCall sp dvs E t) := by
  intro pins s σ H Q I h
  refine wpAny_Call_Name_kw (ld_glob I hg hm ?_ hdb)
  refine PySem.W.callWith_K (h₀ := X.base) I.ok.mod.kin hk (thn (ha pos pins s σ H _ I h) fun us s1 ⟨vs, H1, I1, r, q⟩ => ⟨I1.kIn, ?_⟩) he hpl
  exact run_fn F hr hb hd hx I1 r q
/-- what a class must have to be made -/
structure Mk (K : PySem.W.Frag) (C f : Addr) : Prop where
  makes : PySem.W.makesIn K C = true
  init : PySem.W.findIn K (.ref C) "__init__" = some (some (.ref f))
  fn : PySem.W.isFn K (.ref f) = true
  kp : PySem.W.keepIn K (.ref C) = true

end

/-! ### keywords -/
section
variable {X : Cx} {CX : CXT} {k : Nat} {f C : Addr} {fd : FuncData} {ps ks : List Str} {sp : Sp} {E : XK} {x m : Str} {p pos apos kpos : Pos} {e o : Expr} {es : List Expr} {kws : List Keyword} {te ta : TE} {t tk : TA} {nm : Option Str}
/-- how a call with keywords binds: g puts the positional values us and the keywords' values ws (names ks) in the parameters' order, defaults among them -/
structure KBinds (K : PySem.W.Frag) (fd : FuncData) (ps ks : List Str) (g : List Value → List Value → List Value) (gV : List V → List V → List V) : Prop where
  to : ∀ (s : Shared) (us ws : List Value), K.In s.heap → (g us ws).length = ps.length → BindsTo s fd ⟨us, ks.zip ws⟩ (ps.zip (g us ws))
  rel : ∀ {vs : List V} {us : List Value} {zs : List V} {ws : List Value}, Vals vs us → Vals zs ws → Vals (gV vs zs) (g us ws)
variable {g : List Value → List Value → List Value} {gV : List V → List V → List V}
end

/-! ### a def's body keeps its promise -/
/-- names: the parameters first -/
structure FnScope (N P : List Str) (sc : Scope) : Prop where
  kind : sc.kind = .function
  co : sc.isCoroutine = false
  gen : sc.isGenerator = false
  nd : N.Nodup
  pre : N.take P.length = P
  par : ∀ x ∈ P, sc.names.lookup x = some .local ∨ sc.names.lookup x = some .cell
  nofree : ∀ y ∈ sc.names, y.2 ≠ .free

theorem bindL_out {kindOf : Str → Option NameKind} {x : Str} : ∀ {binds : List (Str × Value)} {m : Str → Option Value}, (∀ v, (x, v) ∉ binds) → bindL kindOf binds m x = m x
  | [], _, _ => rfl
  | (n, v) :: r, m, h => by
    unfold bindL
    rw [bindL_out fun w hw => h w (List.mem_cons_of_mem _ hw)]
    split
    · have : x ≠ n := by rintro rfl; exact h v List.mem_cons_self
      simp [this]
    · rfl
theorem bindC_out {kindOf : Str → Option NameKind} {x : Str} : ∀ {binds : List (Str × Value)} {m : Str → Option Value}, (∀ v, (x, v) ∉ binds) → bindC kindOf binds m x = m x
  | [], _, _ => rfl
  | (n, v) :: r, m, h => by
    unfold bindC
    rw [bindC_out fun w hw => h w (List.mem_cons_of_mem _ hw)]
    split
    · rfl
    · have : x ≠ n := by rintro rfl; exact h v List.mem_cons_self
      simp [this]
theorem bindL_get {kindOf : Str → Option NameKind} {x : Str} {v : Value} : ∀ {P : List Str} {vs : List Value} {i : Nat} {m : Str → Option Value}, P.Nodup → P[i]? = some x → vs[i]? = some v → kindOf x = some .local →
    bindL kindOf (P.zip vs) m x = some v
  | [], _, _, _, _, h, _, _ => by simp at h
  | _ :: _, [], _, _, _, _, h, _ => by simp at h
  | p :: P, w :: vs, 0, m, nd, h1, h2, hk => by
    simp at h1 h2; subst h1; subst h2
    show bindL kindOf ((p, w) :: P.zip vs) m p = _
    unfold bindL
    rw [bindL_out fun v hv => (List.nodup_cons.mp nd).1 (List.of_mem_zip hv).1, if_pos hk]
    simp
  | p :: P, w :: vs, i + 1, m, nd, h1, h2, hk => by
    show bindL kindOf ((p, w) :: P.zip vs) m x = _
    unfold bindL
    exact bindL_get (i := i) (List.nodup_cons.mp nd).2 (by simpa using h1) (by simpa using h2) hk
theorem bindC_get {kindOf : Str → Option NameKind} {x : Str} {v : Value} : ∀ {P : List Str} {vs : List Value} {i : Nat} {m : Str → Option Value}, P.Nodup → P[i]? = some x → vs[i]? = some v → kindOf x ≠ some .local →
    bindC kindOf (P.zip vs) m x = some v
  | [], _, _, _, _, h, _, _ => by simp at h
  | _ :: _, [], _, _, _, _, h, _ => by simp at h
  | p :: P, w :: vs, 0, m, nd, h1, h2, hk => by
    simp at h1 h2; subst h1; subst h2
    show bindC kindOf ((p, w) :: P.zip vs) m p = _
    unfold bindC
    rw [bindC_out fun v hv => (List.nodup_cons.mp nd).1 (List.of_mem_zip hv).1, if_neg hk]
    simp
  | p :: P, w :: vs, i + 1, m, nd, h1, h2, hk => by
    show bindC kindOf ((p, w) :: P.zip vs) m x = _
    unfold bindC
    exact bindC_get (i := i) (List.nodup_cons.mp nd).2 (by simpa using h1) (by simpa using h2) hk

/-- the names' values at the entry -/
def start (N : List Str) (vs : List V) : St := vs.map some ++ List.replicate (N.length - vs.length) none

/-- the context of a def's body, at its entry; an exception leaves the frame, then lies as CX says -/
def cxOf (CX : CXT) (P : Program) (w : World) (K : PySem.W.Frag) (mg : Str → Option Value) (base : Heap) (N : List Str) (qual : Str) (scope : Scope) (f : Addr) (cd : Value) (A : Around) (outer : List Env) (s : Shared) (H : Hp) (E : XK) : Cx where
  prog := P
  w := w
  K := K
  mg := mg
  base := base
  A := A.deeper (envOfC qual scope s.heap.objs.size f cd)
  N := N
  s₀ := s
  H₀ := H
  env := envOfC qual scope s.heap.objs.size f cd
  outer := outer
  stack := envOfC qual scope s.heap.objs.size f cd :: outer
  ex := []
  calm := true
  fn := fun _ => true
  pn := []
  xe := fun e s' => wpAny (model P w) (A.deeper (envOfC qual scope s.heap.objs.size f cd)) (leaving (envOfC qual scope s.heap.objs.size f cd) e) (fun _ s'' => CX outer H s E e s'') (fun e' s'' => CX outer H s E e' s'') s'

theorem cell_has {sc : Scope} {n : Nat} {x : Str} (h : sc.names.lookup x = some .cell) : ∃ c, (cellsFrom n sc.names []).lookup x = some c := by
  have q := PySem.W.cellsFrom_some sc.names n [] (.inl h)
  exact Option.isSome_iff_exists.mp q

theorem inv_start {CX : CXT} {P : Program} {w : World} {K : PySem.W.Frag} {mg : Str → Option Value} {base : Heap} {N ps : List Str} {qual : Str} {scope : Scope} {f : Addr} {cd : Value} {A : Around} {outer : List Env} {s s1 : Shared} {H : Hp} {E : XK} {us : List Value} {vs : List V}
    (S : FnScope N ps scope) (hd : A.handled = none) (e0 : Env0 P w K mg base A outer s H) (hl : vs.length = ps.length) (r : Vals vs us)
    (x : InCallC s s.heap.objs.size (bindL (envOfC qual scope s.heap.objs.size f cd).kindOf (ps.zip us) fun _ => none) (cellsFrom (s.heap.objs.size + 1) scope.names []) (bindC (envOfC qual scope s.heap.objs.size f cd).kindOf (ps.zip us) fun _ => none) s1) :
    Inv (cxOf CX P w K mg base N qual scope f cd A outer s H E) [] (start N vs) H s1 := by
  have hpl : ps.length ≤ N.length := by have := congrArg List.length S.pre; rw [List.length_take] at this; omega
  obtain ⟨h1, tk, rfl, hk⟩ := x.done
  have noA : ∀ b : Addr, b ∉ (cxOf CX P w K mg base N qual scope f cd A outer s H E).ex := fun b z => absurd (show b ∈ ([] : List Addr) from z) (by simp)
  refine ⟨⟨e0.mod, S.kind, rfl, rfl, Nat.le_refl _, fun y z c h1 h2 => ?_, fun y hy => ?_, fun y c _ h => ?_, fun _ => hd, Around.frames_deeper e0.frames, .inr ⟨rfl, rfl⟩, fun b z => absurd z (noA b), e0.bs, e0.bsz, fun b _ _ => noA b, fun b z => absurd z (noA b), e0.funs, e0.frf⟩,
    rfl, e0.bare, Un.kept hk, ⟨_, x.toInCall.ns, fun i y v h1 h2 h3 => ?_⟩, fun y c h => ⟨_, x.cell y c h⟩, e0.hok.fresh (Nat.le_refl _), fun y c h => ?_, fun p hp => absurd (show p ∈ ([] : List (Addr × Obj)) from hp) (by simp), e0.hok.kept hk, ?_⟩
  · exact name_of_addr x.apart (PySem.mem_of_lookup h1) (PySem.mem_of_lookup h2)
  · have hy : scope.names.lookup y = some .cell ∨ scope.names.lookup y = some .free := hy
    rcases hy with hy | hy
    · exact cell_has hy
    · exact absurd rfl (S.nofree _ (PySem.mem_of_lookup hy))
  · exact Nat.le_of_lt (x.above y c (PySem.mem_of_lookup h))
  · have hi : i < vs.length := by
      unfold start at h2
      by_cases hi : i < vs.length
      · exact hi
      · rw [List.getElem?_append_right (by simpa using hi)] at h2
        rw [List.getElem?_replicate] at h2
        split at h2 <;> cases h2
    have ha : vs[i]? = some v := by
      unfold start at h2
      rw [List.getElem?_append_left (by simpa using hi), List.getElem?_map] at h2
      cases e : vs[i]? with
      | none => rw [e] at h2; cases h2
      | some a => rw [e] at h2; cases h2; rfl
    obtain ⟨u, hu, rv⟩ := r.get ha
    have hp : ps[i]? = some y := by
      rw [← S.pre, List.getElem?_take_of_lt (by omega)]; exact h1
    have ndP : ps.Nodup := by rw [← S.pre]; exact S.nd.sublist (List.take_sublist _ _)
    refine ⟨u, rv, ?_⟩
    rcases S.par y (List.mem_of_getElem? hp) with k | k
    · exact .inl ⟨k, bindL_get ndP hp hu k⟩
    · obtain ⟨c, e⟩ := cell_has (n := s.heap.objs.size + 1) k
      refine .inr ⟨.inl k, c, e, ?_⟩
      have q := x.cell y c e
      rw [bindC_get ndP hp hu (by show scope.names.lookup y ≠ _; rw [k]; decide)] at q
      exact q
  · exact e0.hok.fresh (Nat.le_of_lt (x.above y c (PySem.mem_of_lookup h)))
  · unfold start
    show _ = N.length
    rw [List.length_append, List.length_map, List.length_replicate]
    omega

/-- THE RULE: a def (or a method) of the text, by its body. The body's reading t is chosen for each entry; it is run at the parameters' values -/
theorem fn_of {CX : CXT} {P : Program} {w : World} {K : PySem.W.Frag} {mg : Str → Option Value} {base : Heap} {k : Nat} {f : Addr} {name qual : Str} {params : Arguments} {body : List Stmt} {scope : Scope} {dV kV doc pm cdv ct oc : Value} {an od : Option Addr}
    {osl : Array (Option Value)} {N ps : List Str} {sp : Sp} (lk : K.lookup f = some ⟨oc, od, .func (PySem.W.fnOf name qual params body scope dV kV doc pm an cdv ct), osl⟩) (hcd : PySem.W.codeIn K cdv qual = true) (S : FnScope N ps scope)
    (len : ∀ vs H Q E, sp vs H Q E → vs.length = ps.length)
    (hbody : ∀ (A : Around) (outer : List Env) (s : Shared) (H : Hp) (vs : List V) (Q : VK) (E : XK), Room k (A.deeper (envOfC qual scope s.heap.objs.size f cdv)) → sp vs H Q E →
      ∃ t, PSs (cxOf CX P w K mg base N qual scope f cdv A outer s H E) body t ∧ t { nx := fun _ H' => Q .non H', rt := Q } (start N vs) H) :
    FnOk P w K mg base CX (k + 1) f (PySem.W.fnOf name qual params body scope dV kV doc pm an cdv ct) ps sp := by
  refine ⟨len, fun A outer s H args us vs Q E hr e0 hb r hsp => ?_⟩
  have hl := len _ _ _ _ hsp
  have KX : K.In s.heap := e0.mod.kin.keeps fun b o e => (e0.bs b o e).1
  have lim : s.heap.NoLimit := e0.mod.nolimit.keeps fun b o e => (e0.bs b o e).1
  have hkind : ∀ y ∈ ps.zip us, scope.names.lookup y.1 = some .local ∨ (scope.names.lookup y.1 = some .cell ∧ ((cellsFrom (s.heap.objs.size + 1) scope.names []).lookup y.1).isSome = true) := fun ⟨n, v⟩ hy => by
    rcases S.par n (List.of_mem_zip hy).1 with q | q
    · exact .inl q
    · exact .inr ⟨q, PySem.W.cellsFrom_some _ _ _ (.inl q)⟩
  refine codeAny_call_function hr.depth (KX _ _ lk) rfl S.co S.gen rfl (PySem.W.codeRec_of KX hcd) (hb _ _ _ _ ?_)
  refine wpAny_newFunctionEnv_cells S.kind hkind fun env he s1 x => ?_
  subst he
  refine ⟨lim.keeps x.toInCall.keep, codeAny_func ?_⟩
  obtain ⟨t, ht, hq⟩ := hbody A outer s H vs Q E (hr.deeper _) hsp
  have I : Inv (cxOf CX P w K mg base N qual scope f cdv A outer s H E) [] (start N vs) H s1 := inv_start S hr.hd e0 hl r x
  refine wpAny_mono (ht [] s1 (start N vs) H _ I hq) (fun fl s' hs => ?_) fun e s' hs => hs
  have fin : ∀ {σ' : St} {H' : Hp} {v : V} {u : Value}, Inv (cxOf CX P w K mg base N qual scope f cdv A outer s H E) [] σ' H' s' → RelV v u → Q v H' → CE outer P w H s Q u s' :=
    fun {σ' H' v u} J rv q => ⟨v, H', J.os, J.bare, J.base, J.hok, rv, q⟩
  cases fl with
  | ret u =>
    obtain ⟨v, σ', H', J, rv, q⟩ := hs
    exact fin J rv q
  | next =>
    obtain ⟨σ', H', J, q⟩ := hs
    exact fin (v := V.non) (u := Value.none) J rfl q
  | brk =>
    obtain ⟨_, _, _, q⟩ := hs
    exact False.elim q
  | cont =>
    obtain ⟨_, _, _, q⟩ := hs
    exact False.elim q
end L2

namespace L2
open PySem PySem.Spec PyProof.Rows
section
variable {X : Cx} {x : Str} {p pos : Pos} {e : Expr} {es : List Expr} {t : TA} {id T : String} {r : List V → Hp → VK → Prop}

def tCB (r : List V → Hp → VK → Prop) (t : TA) : TE := fun σ H Q => t σ H fun vs H1 => r vs H1 Q
/-- f(e, ..), f a built-in function -/
theorem pe_callB (hc : CallR X (.builtin id) r) (hg : Gl X x) (hm : X.mg x = none) (hv : bootBuiltins x = some (.builtin id)) (ha : PA X (e :: es) t) (hn : x ≠ "__name__" := by decide) (hdb : (x == ("__debug__" : Str)) = false := by decide)
    (he : starEach (e :: es) X.env = (false, eval e X.env) :: starEach es X.env := by rfl) (hpl : (backTo pos (starEach es X.env)).any (·.1) = false := by rfl) : PE X (.Call (.Name x p) (e :: es) [] pos) (tCB r t) := by
  intro pins s σ H Q I h
  refine wpAny_Call_Name_kw (ld_blt I hg hm hv ?_ hn hdb)
  exact PyProof.Rows.callWith_builtin1 (thn (ha pos pins s σ H _ I h) fun us s1 ⟨vs, H1, I1, r1, q1⟩ => hc pins s1 σ H1 vs us Q I1 r1 q1) he hpl
/-- T(e, ..), T a built-in type -/
theorem pe_callTy (hc : CallR X (.type T) r) (hg : Gl X x) (hm : X.mg x = none) (hv : bootBuiltins x = some (.type T)) (ha : PA X (e :: es) t) (hn : x ≠ "__name__" := by decide) (hdb : (x == ("__debug__" : Str)) = false := by decide)
    (he : starEach (e :: es) X.env = (false, eval e X.env) :: starEach es X.env := by rfl) (hpl : (backTo pos (starEach es X.env)).any (·.1) = false := by rfl) : PE X (.Call (.Name x p) (e :: es) [] pos) (tCB r t) := by
  intro pins s σ H Q I h
  refine wpAny_Call_Name_kw (ld_blt I hg hm hv ?_ hn hdb)
  exact PyProof.Rows.callWith_type1 (thn (ha pos pins s σ H _ I h) fun us s1 ⟨vs, H1, I1, r1, q1⟩ => hc pins s1 σ H1 vs us Q I1 r1 q1) he hpl
end
end L2

namespace HT
open PySem PyProof.Rows

section
open PySem.SeqAt
open PySem.AutoSeq1 (wpAny_loadPart')
open PySem.MeetsSeq PySem.MeetsSeq2 PySem.MeetsSeq3

end

section
variable {prog : Program} {w : World} {A : Around} {E : Value → Shared → Prop} {s : Shared}

/-! ### t[a:b], not the whole -/
/-- a slice's bound as a place among n (d where it is left out) -/
def sIx (n d : Nat) : Option Int → Nat
  | none => d
  | some v => if v < 0 then (v + (n : Int)).toNat else min v.toNat n
end
end HT

namespace L2
open PySem PySem.Spec PyProof.Rows

/-! ### the parts of a slice -/
abbrev TO := St → Hp → (Option Int → Hp → Prop) → Prop
/-- a slice's part (left out, or an int) -/
def PO (X : Cx) (e : Option Expr) (t : TO) : Prop :=
  ∀ (pins : List (Addr × Obj)) (s : Shared) (σ : St) (H : Hp) (Q : Option Int → Hp → Prop), Inv X pins σ H s → t σ H Q →
    wpAny (model X.prog X.w) X.A (evalPart e X.env) (fun u s' => ∃ o H', Inv X pins σ H' s' ∧ IsPart u o ∧ Q o H') X.xe s
def tNoPart : TO := fun _ H Q => Q none H
def tPart (t : TE) : TO := fun σ H Q => t σ H fun x H1 => ∃ i, x = .int i ∧ Q (some i) H1

section
variable {X : Cx} {e : Expr} {te : TE} {lo hi : Option Expr} {tl th : TO} {pos p2 : Pos}

theorem po_none : PO X none tNoPart := by
  intro pins s σ H Q I h
  rw [evalPart_none]
  exact wpAny_pure ⟨none, H, I, .none, h⟩
theorem po_some (h : PE X e te) : PO X (some e) (tPart te) := by
  intro pins s σ H Q I hw
  rw [evalPart_some]
  refine thn (h pins s σ H _ I hw) fun u s1 ⟨x, H1, I1, r1, q1⟩ => ?_
  obtain ⟨i, rfl, q⟩ := q1
  obtain ⟨t, rfl⟩ := r1
  exact ⟨some i, H1, I1, .int i t, q⟩

/-- what a slice of a value is, by values: the slice object stands at sl -/
def SlR (X : Cx) (r : V → Option Int → Option Int → Hp → VK → Prop) : Prop :=
  ∀ (pins : List (Addr × Obj)) (s : Shared) (σ : St) (H : Hp) (x : V) (v vl vu : Value) (lo hi : Option Int) (sl : Addr) (Q : VK), Inv X pins σ H s → RelV x v → s.heap.IsSliceOf sl vl vu .none → IsPart vl lo → IsPart vu hi → r x lo hi H Q →
    ∃ T id, typeLookup (.type T) "__getitem__" = pure (some (.builtin id)) ∧ s.TypeIs v T ∧ wpAny (model X.prog X.w) X.A (getItem v (.ref sl)) (EP X pins σ Q) X.xe s
def tSl (r : V → Option Int → Option Int → Hp → VK → Prop) (te : TE) (tl th : TO) : TE := fun σ H Q => te σ H fun x H1 => tl σ H1 fun l H2 => th σ H2 fun u H3 => r x l u H3 Q
/-- a[lo:hi], any a -/
theorem pe_slice {r : V → Option Int → Option Int → Hp → VK → Prop} (hr : SlR X r) (he : PE X e te) (hl : PO X lo tl) (hu : PO X hi th) : PE X (.Subscript e (.Slice lo hi none p2) pos) (tSl r te tl th) := by
  intro pins s σ H Q I h
  refine Subscript_ (thn (he pins s σ H _ I h) fun v s1 ⟨x, H1, I1, r1, q1⟩ => ?_)
  refine wpAny_Slice (thn (hl pins s1 σ H1 _ I1 q1) fun vl s2 ⟨l, H2, I2, pl, q2⟩ => thn (hu pins s2 σ H2 _ I2 q2) fun vu s3 ⟨u, H3, I3, pu, q3⟩ => ?_)
  rw [evalPart_none]
  refine wpAny_pure ?_
  have I4 : Inv X pins σ H3 { s3 with heap := s3.heap.push { cls := .type "slice", data := .fields #[vl, vu, .none] } } := I3.kept (t' := s3.toks) fun b ob q => Heap.get?_push_of_some _ q
  obtain ⟨T, id, hT, ht, hg⟩ := hr pins { s3 with heap := s3.heap.push { cls := .type "slice", data := .fields #[vl, vu, .none] } } σ H3 x v vl vu l u s3.heap.objs.size Q I4 r1 (Heap.IsSliceOf.new ..) pl pu q3
  show wpAny (model X.prog X.w) X.A (subscriptTail e (.Slice lo hi none p2) v (.ref s3.heap.objs.size)) (EP X pins σ Q) X.xe { s3 with heap := s3.heap.push { cls := .type "slice", data := .fields #[vl, vu, .none] } }
  exact tail_any (ops := [.ref s3.heap.objs.size, v]) ht hT hg (by with_unfolding_all rfl)

/-- the items of xs[lo:hi] -/
def cutV (xs : List V) (lo hi : Option Int) : List V := (xs.drop (HT.sIx xs.length 0 lo)).take (HT.sIx xs.length xs.length hi - HT.sIx xs.length 0 lo)
theorem cutV_length (xs : List V) (lo hi : Option Int) : (cutV xs lo hi).length ≤ xs.length := by
  unfold cutV
  rw [List.length_take, List.length_drop]
  omega
/-! ### t < u, t + u -/
end
end L2

namespace L2
open PySem PySem.Spec PyProof.Rows

/-! ### places -/
/-- the place that an index of any sign means -/
def ixN (n : Nat) (i : Int) : Option Nat := if 0 ≤ i then (if i < n then some i.toNat else none) else if -(n : Int) ≤ i then some (i + n).toNat else none
def atI {α : Type} (xs : List α) (i : Int) : Option α := (ixN xs.length i).bind fun j => xs[j]?
theorem ixN_seq {n : Nat} {i : Int} {j : Nat} (h : ixN n i = some j) : seqIndex? i n = some j ∧ j < n ∧ -(n : Int) ≤ i ∧ i < n := by
  unfold ixN at h
  by_cases h0 : 0 ≤ i
  · rw [if_pos h0] at h
    by_cases h1 : i < n
    · rw [if_pos h1] at h
      have e : i.toNat = j := Option.some.inj h
      exact ⟨by rw [seqIndex_of h0 h1, e], by omega, by omega, h1⟩
    · rw [if_neg h1] at h; cases h
  · rw [if_neg h0] at h
    by_cases h1 : -(n : Int) ≤ i
    · rw [if_pos h1] at h
      have e : (i + n).toNat = j := Option.some.inj h
      exact ⟨by rw [seqIndex_neg (by omega) h1, e], by omega, h1, by omega⟩
    · rw [if_neg h1] at h; cases h
theorem atI_get {α : Type} {xs : List α} {i : Int} {v : α} (h : atI xs i = some v) : ∃ j, seqIndex? i xs.length = some j ∧ xs[j]? = some v ∧ j < xs.length ∧ -(xs.length : Int) ≤ i ∧ i < xs.length := by
  unfold atI at h
  cases e : ixN xs.length i with
  | none => rw [e] at h; cases h
  | some j =>
    rw [e] at h
    obtain ⟨h1, h2, h3, h4⟩ := ixN_seq e
    exact ⟨j, h1, h, h2, h3, h4⟩
theorem atI_nat {α : Type} {xs : List α} {j : Nat} {v : α} (h : xs[j]? = some v) : atI xs (j : Int) = some v := by
  have hj : j < xs.length := (List.getElem?_eq_some_iff.mp h).1
  have e : ixN xs.length (j : Int) = some j := by
    unfold ixN
    rw [if_pos (by omega), if_pos (by omega)]; simp
  unfold atI; rw [e]; exact h
/-! ### what may be subscripted -/
/-- what stands as an index of a plain subscript -/
def PlainIx (b : Expr) : Prop := ∀ o i, subscripted b false o i = operate [o, i] (getItem o i)
/-- a subscript by values -/
def IxR (X : Cx) (r : R2) : Prop :=
  ∀ (value slice : Expr) (pins : List (Addr × Obj)) (s : Shared) (σ : St) (H : Hp) (x y : V) (v u : Value) (Q : VK), Inv X pins σ H s → RelV x v → RelV y u → r x y H Q →
    subscripted slice false v u = operate [v, u] (getItem v u) → wpAny (model X.prog X.w) X.A (subscriptTail value slice v u) (EP X pins σ Q) X.xe s
/-- a call of a builtin's method by values: the receiver, the arguments -/
def MtR (X : Cx) (id : String) (r : V → List V → Hp → VK → Prop) : Prop :=
  ∀ (pins : List (Addr × Obj)) (s : Shared) (σ : St) (H : Hp) (x : V) (xs : List V) (v : Value) (us : List Value) (Q : VK), Inv X pins σ H s → RelV x v → Vals xs us → r x xs H Q →
    wpAny (model X.prog X.w) X.A (call (.builtin id) (v :: us)) (EP X pins σ Q) X.xe s
section
variable {X : Cx} {a b : Expr} {ta tb : TE} {pos : Pos}
theorem IxR.or {r r' : R2} (h : IxR X r) (h' : IxR X r') : IxR X (fun x y H Q => r x y H Q ∨ r' x y H Q) := by
  intro value slice pins s σ H x y v u Q I rx ry q hs
  rcases q with q | q
  · exact h value slice pins s σ H x y v u Q I rx ry q hs
  · exact h' value slice pins s σ H x y v u Q I rx ry q hs
/-- a[b] -/
theorem pe_ix {r : R2} (hr : IxR X r) (ha : PE X a ta) (hb : PE X b tb) (hs : PlainIx b) : PE X (.Subscript a b pos) (tOp r ta tb) := by
  intro pins s σ H Q I h
  exact Subscript_ (binT ha hb I h fun v u s2 x y H2 I2 rx ry q => hr a b pins s2 σ H2 x y v u Q I2 rx ry q (hs _ _))

def rIxL (K : PySem.W.Frag) : R2 := fun x y H Q => ∃ p xs i v, x = .ref p ∧ y = .int i ∧ SqL K H p xs ∧ atI xs i = some v ∧ Q v H
def rIxT (K : PySem.W.Frag) : R2 := fun x y H Q => ∃ p xs i v, x = .ref p ∧ y = .int i ∧ SqT K H p xs ∧ atI xs i = some v ∧ Q v H
def rIxS : R2 := fun x y H Q => ∃ z i c, x = .str z ∧ y = .int i ∧ z.length ≤ sizeLine ∧ atI z.cps.toList i = some c ∧ Q (.str ⟨#[c]⟩) H
theorem ix_list : IxR X (rIxL X.K) := by
  intro value slice pins s σ H x y v u Q I rx ry h hs
  obtain ⟨p, xs, i, z, rfl, rfl, hq, he, q⟩ := h
  cases rx
  obtain ⟨t, rfl⟩ := ry
  obtain ⟨its, r, pl, hz⟩ := I.list hq
  obtain ⟨j, h1, h2, h3, h4, h5⟩ := atI_get he
  obtain ⟨w, ew, rw'⟩ := r.get h2
  have hl := r.length
  have hn := line63
  have fin : EP X pins σ Q w s := ⟨z, H, I, rw', q⟩
  by_cases h0 : 0 ≤ i
  · have hj : i.toNat = j := by
      rw [seqIndex_of h0 h5] at h1
      exact Option.some.inj h1
    exact item_listR pl.isList h0 (by omega) (by rw [hj]; simpa using ew) fin hs
  · have hj : (i + (its.toArray.size : Int)).toNat = j := by
      rw [seqIndex_neg (by omega) h4] at h1
      rw [List.size_toArray, ← hl]
      exact Option.some.inj h1
    exact subscriptTail_builtinR (x := w) pl.isList.typeIs slot_list_getitem.lookup
      (wpAny_getItem_list_neg (Q := fun r s' => r = w ∧ EP X pins σ Q r s') pl.isList (by omega) (by rw [List.size_toArray] <;> omega) (by omega) (by rw [hj]; simpa using ew) ⟨rfl, fin⟩) hs
theorem ix_tup : IxR X (rIxT X.K) := by
  intro value slice pins s σ H x y v u Q I rx ry h hs
  obtain ⟨p, xs, i, z, rfl, rfl, hq, he, q⟩ := h
  cases rx
  obtain ⟨t, rfl⟩ := ry
  obtain ⟨its, r, pl, hz⟩ := I.tuple hq
  obtain ⟨j, h1, h2, h3, h4, h5⟩ := atI_get he
  obtain ⟨w, ew, rw'⟩ := r.get h2
  have hl := r.length
  have hn := line63
  have fin : EP X pins σ Q w s := ⟨z, H, I, rw', q⟩
  exact subscriptTail_builtinR (x := w) pl.typeIs slot_tuple_getitem.lookup
    (getItem_tuple (j := j) (Q := fun r s' => r = w ∧ EP X pins σ Q r s') pl (by omega) (by omega) (by rw [List.size_toArray, ← hl]; exact h1) (by simpa using ew) ⟨rfl, fin⟩) hs
theorem ix_str : IxR X rIxS := by
  intro value slice pins s σ H x y v u Q I rx ry h hs
  obtain ⟨z, i, c, rfl, rfl, hz, he, q⟩ := h
  obtain ⟨t, rfl⟩ := rx
  obtain ⟨t', rfl⟩ := ry
  obtain ⟨j, h1, h2, h3, h4, h5⟩ := atI_get he
  have hl : z.cps.toList.length = z.length := by simp [Str.length]
  rw [hl] at h1 h4 h5
  have hn := line63
  exact tail_any (typeIs_str s z t) slot_str_getitem.lookup (getItem_str (c := c) (by
    have e1 : decide (i < -(2 ^ 63 : Int)) = false := decide_eq_false (by omega)
    have e2 : decide (i ≥ 2 ^ 63) = false := decide_eq_false (by omega)
    rw [e1, e2, Bool.or_false]) (by rw [h1]; simpa using h2) ⟨.str ⟨#[c]⟩, H, I.tok _, ⟨_, rfl⟩, q⟩) hs
/-- list, tuple or str -/
def rIx (K : PySem.W.Frag) : R2 := fun x y H Q => rIxL K x y H Q ∨ rIxT K x y H Q ∨ rIxS x y H Q
theorem ix_seq : IxR X (rIx X.K) := ix_list.or (ix_tup.or ix_str)

/-! ### xs[i] = v, any sign -/
/-- the list's object behind a store -/
theorem mapSeq_set (its : List Value) (n j : Nat) (u : Value) : Obj.mapSeq (·.setIfInBounds j u) { cls := .type "list", data := .seq its.toArray n } = { cls := .type "list", data := .seq (its.set j u).toArray n } := by
  simp [Obj.mapSeq]
theorem Inv.lst {pins : List (Addr × Obj)} {σ : St} {H : Hp} {s : Shared} {p : Addr} {xs : List V} (I : Inv X pins σ H s) (h : H p = some (.lst xs)) :
    ∃ (its : List Value) (n : Nat), Vals xs its ∧ s.heap.get? p = some { cls := .type "list", data := .seq its.toArray n } ∧ xs.length ≤ sizeLine := by
  obtain ⟨z, its, n, r, e⟩ := I.hok p _ h
  exact ⟨its, n, r, e, z⟩
/-- the list at p is written by an update of its object -/
theorem Inv.lstUpd {pins : List (Addr × Obj)} {σ : St} {H : Hp} {s : Shared} {p : Addr} {xs ys : List V} {its its' : List Value} {n n' : Nat} {f : Obj → Obj} (I : Inv X pins σ H s) (h : H p = some (.lst xs))
    (ho : s.heap.get? p = some { cls := .type "list", data := .seq its.toArray n }) (hf : f { cls := .type "list", data := .seq its.toArray n } = { cls := .type "list", data := .seq its'.toArray n' }) (r : Vals ys its') (hz : ys.length ≤ sizeLine) (t : Nat) :
    Inv X pins σ (upd H p (.lst ys)) { s with heap := s.heap.update p f, toks := t } := by
  have e : (s.heap.update p f).get? p = some { cls := .type "list", data := .seq its'.toArray n' } := by
    rw [Heap.get?_update_self f ho (by rw [hf] <;> rfl), hf]
  refine I.write (x := p) (e := p) (by rw [h]; trivial) (.inl rfl) (fun b u hb q => (Heap.get?_update_other _ _ (Ne.symm hb)).trans q) ⟨_, e⟩ ?_
  exact ⟨hz, its', n', r, e⟩
def rSetL : V → V → V → Hp → (Hp → Prop) → Prop := fun o i v H Q => ∃ p xs k j, o = .ref p ∧ i = .int k ∧ H p = some (.lst xs) ∧ ixN xs.length k = some j ∧ Q (upd H p (.lst (xs.set j v)))
theorem set_list : PSet X rSetL := by
  intro pins s σ H o i v ov iv u Q I ro ri rv h
  obtain ⟨p, xs, k, j, rfl, rfl, hp, hj, q⟩ := h
  cases ro
  obtain ⟨t, rfl⟩ := ri
  obtain ⟨its, n, r, ho, hz⟩ := I.lst hp
  obtain ⟨h1, h2, h3, h4⟩ := ixN_seq hj
  have hl := r.length
  have hn := line63
  have I' : Inv X pins σ (upd H p (.lst (xs.set j v))) { s with heap := s.heap.update p (Obj.mapSeq (·.setIfInBounds j u)) } :=
    I.lstUpd hp ho (mapSeq_set its n j u) (r.set rv j) (by rw [List.length_set]; exact hz) s.toks
  by_cases h0 : 0 ≤ k
  · have hk : k.toNat = j := by
      rw [seqIndex_of h0 h4] at h1
      exact Option.some.inj h1
    exact PySem.W.ki_setAt ho h0 (by omega) (by rw [List.size_toArray, ← hl]; exact h4) (by rw [hk]; exact ⟨_, I', q⟩)
  · have hk : (k + (its.toArray.size : Int)).toNat = j := by
      rw [seqIndex_neg (by omega) h3] at h1
      rw [List.size_toArray, ← hl]
      exact Option.some.inj h1
    exact PySem.W.ki_setBack ho (by omega) (by rw [List.size_toArray, ← hl]; exact h3) (by omega) (by rw [hk]; exact ⟨_, I', q⟩)

/-! ### slices -/
theorem slice_bounds (lo hi : Option Int) (n : Nat) : (sliceBounds lo hi none n).1 = ((HT.sIx n 0 lo : Nat) : Int) ∧ (sliceBounds lo hi none n).2.1 = ((HT.sIx n n hi : Nat) : Int) ∧ (sliceBounds lo hi none n).2.2 = 1 := by
  refine ⟨?_, ?_, rfl⟩
  · cases lo with
    | none => simp [sliceBounds, HT.sIx]
    | some i =>
      simp only [sliceBounds, HT.sIx, Option.getD_none, show (1 : Int) > 0 by decide, if_true]
      by_cases h : i < 0
      · simp only [h, if_true] <;> omega
      · simp only [h, if_false] <;> omega
  · cases hi with
    | none => simp [sliceBounds, HT.sIx]
    | some i =>
      simp only [sliceBounds, HT.sIx, Option.getD_none, show (1 : Int) > 0 by decide, if_true]
      by_cases h : i < 0
      · simp only [h, if_true] <;> omega
      · simp only [h, if_false] <;> omega
theorem slicePick_cut (its : List Value) (lo hi : Option Int) : slicePick its.toArray lo hi none = ((its.drop (HT.sIx its.length 0 lo)).take (HT.sIx its.length its.length hi - HT.sIx its.length 0 lo)).toArray := by
  obtain ⟨h1, h2, h3⟩ := slice_bounds lo hi its.toArray.size
  unfold slicePick
  rw [h1, h2, h3]
  simp only [sliceRange_one, pick_run, List.size_toArray] <;> rfl
/-- xs[lo:hi] of a list: a new list -/
def rSlL (K : PySem.W.Frag) : V → Option Int → Option Int → Hp → VK → Prop := fun x lo hi H Q => ∃ a xs, x = .ref a ∧ SqL K H a xs ∧ ∀ p, H p = none → Q (.ref p) (upd H p (.lst (cutV xs lo hi)))
theorem sl_list : SlR X (rSlL X.K) := by
  intro pins s σ H x v vl vu lo hi sl Q I rx hs pl pu h
  obtain ⟨a, xs, rfl, hx, q⟩ := h
  cases rx
  obtain ⟨its, r, ht, hz⟩ := I.list hx
  have hlen := r.length
  refine ⟨"list", _, slot_list_getitem.lookup, ht.isList.typeIs, ?_⟩
  refine wpAny_getItem_list_slice ht.isList hs pl pu .none (by simp) ?_ (by rw [List.size_toArray] <;> omega)
  rw [slicePick_cut, ← hlen]
  refine ⟨.ref s.heap.objs.size, _, I.laid (t' := s.toks) (o := .lst (cutV xs lo hi)) (fun b ob q => Heap.get?_push_of_some _ q) (Nat.le_refl _) ?_, rfl, q _ (I.hok.fresh (Nat.le_refl _))⟩
  exact ⟨Nat.le_trans (cutV_length xs lo hi) hz, _, 0, (r.drop (HT.sIx xs.length 0 lo)).take (HT.sIx xs.length xs.length hi - HT.sIx xs.length 0 lo), Heap.get?_push_size _ rfl⟩

/-! ### in, not in: flat items -/
/-! ### len, list(x), tuple(x) of any list or tuple that is read -/
theorem call_len_seq : CallR X (.builtin "len") (fun xs H Q => ∃ p ys, xs = [.ref p] ∧ (SqL X.K H p ys ∨ SqT X.K H p ys) ∧ Q (.int ys.length) H) := by
  intro pins s σ H xs us Q I r h
  obtain ⟨p, ys, rfl, hq, q⟩ := h
  obtain ⟨u, rfl, rx⟩ := vals1 r
  cases rx
  have hn := line63
  rcases hq with hq | hq
  · obtain ⟨its, r', pl, hz⟩ := I.list hq
    have hlen := r'.length
    exact Calls.call_len_list pl.isList (by simp only [List.size_toArray] <;> omega) ⟨.int ys.length, H, I.tok _, ⟨s.toks + 1, by rw [List.size_toArray, hlen]⟩, q⟩
  · obtain ⟨its, r', pl, hz⟩ := I.tuple hq
    have hlen := r'.length
    exact len_tuple pl (by simp only [List.size_toArray] <;> omega) ⟨.int ys.length, H, I.tok _, ⟨s.toks + 1, by rw [List.size_toArray, hlen]⟩, q⟩
theorem call_list_of : CallR X (.type "list") (fun xs H Q => ∃ p ys, xs = [.ref p] ∧ (SqL X.K H p ys ∨ SqT X.K H p ys) ∧ ∀ l, H l = none → Q (.ref l) (upd H l (.lst ys))) := by
  intro pins s σ H xs us Q I r h
  obtain ⟨p, ys, rfl, hq, q⟩ := h
  obtain ⟨u, rfl, rx⟩ := vals1 r
  cases rx
  have fin : ∀ (its : List Value), Vals ys its → ys.length ≤ sizeLine → ∀ (h' : Heap) (c' : Nat), (∀ b o', s.heap.get? b = some o' → h'.get? b = some o') →
      h'.get? s.heap.objs.size = some { cls := .type "list", dict := none, data := .seq its.toArray c', slots := #[] } → EP X pins σ Q (.ref s.heap.objs.size) { s with heap := h' } := fun its r' hz h' c' kp e =>
    ⟨.ref s.heap.objs.size, _, I.laid (t' := s.toks) kp (Nat.le_refl _) (show ObjOk X.prog X.w _ h' _ (.lst ys) from ⟨hz, its, c', r', e⟩), rfl, q _ (I.hok.fresh (Nat.le_refl _))⟩
  rcases hq with hq | hq
  · obtain ⟨its, r', pl, hz⟩ := I.list hq
    have hlen := r'.length
    obtain ⟨o, ho, hc, n, hd⟩ := pl.isList
    exact call_list_seq p (.inl rfl) ho hc hd (fun h' c' kp e => fin its r' hz h' c' kp e) (by simp only [List.size_toArray] <;> omega)
  · obtain ⟨its, r', pl, hz⟩ := I.tuple hq
    have hlen := r'.length
    obtain ⟨o, ho, hc, n, hd⟩ := pl
    exact call_list_seq p (.inr rfl) ho hc hd (fun h' c' kp e => fin its r' hz h' c' kp e) (by simp only [List.size_toArray] <;> omega)
theorem call_tuple_of : CallR X (.type "tuple") (fun xs H Q => ∃ p ys, xs = [.ref p] ∧ ((SqL X.K H p ys ∧ ∀ l, H l = none → Q (.ref l) (upd H l (.tup ys))) ∨ (SqT X.K H p ys ∧ Q (.ref p) H))) := by
  intro pins s σ H xs us Q I r h
  obtain ⟨p, ys, rfl, h⟩ := h
  obtain ⟨u, rfl, rx⟩ := vals1 r
  cases rx
  rcases h with ⟨hq, q⟩ | ⟨hq, q⟩
  · obtain ⟨its, r', pl, hz⟩ := I.list hq
    have hlen := r'.length
    refine call_tuple_list pl.isList (fun h' kp => ?_) (by simp only [List.size_toArray] <;> omega)
    have I1 : Inv X pins σ H { s with heap := h' } := I.kept (t' := s.toks) kp
    have I2 : Inv X pins σ (upd H h'.objs.size (.tup ys)) { s with heap := h'.push { cls := .type "tuple", data := .seq its.toArray } } :=
      I1.laid (t' := s.toks) (fun b o e => Heap.get?_push_of_some _ e) (Nat.le_refl _) (show ObjOk X.prog X.w _ _ _ (.tup ys) from ⟨hz, its, r', IsTup.new _ _⟩)
    exact ⟨.ref h'.objs.size, _, I2, rfl, q _ (I1.hok.fresh (Nat.le_refl _))⟩
  · obtain ⟨its, r', pl, hz⟩ := I.tuple hq
    exact call_tuple_same pl ⟨.ref p, H, I, rfl, q⟩

/-! ### the call of a builtin's method: o.m(..) -/
/-- the value is of that builtin type -/
def tyV (K : PySem.W.Frag) (T : String) (x : V) (H : Hp) : Prop := match x with
  | .str _ => T = "str"
  | .int _ => T = "int"
  | .ref p => (T = "list" ∧ ∃ xs, SqL K H p xs) ∨ (T = "tuple" ∧ ∃ o, K.lookup p = some o ∧ o.cls = .type "tuple" ∧ o.dict = none) ∨
      (T = "dict" ∧ ((∃ kvs, H p = some (.dK kvs)) ∨ ∃ kvs, H p = some (.dT kvs))) ∨ (T = "set" ∧ ∃ S n, H p = some (.set S n))
  | _ => False
theorem tyV_is {pins : List (Addr × Obj)} {σ : St} {H : Hp} {s : Shared} {T : String} {x : V} {v : Value} (I : Inv X pins σ H s) (r : RelV x v) (ty : tyV X.K T x H) :
    s.TypeIs v T ∧ ∀ a, v = .ref a → ∃ ob, s.heap.get? a = some ob ∧ ob.dict = none := by
  cases x with
  | str z =>
    obtain ⟨t, rfl⟩ := r
    cases (show T = "str" from ty)
    exact ⟨typeIs_str s z t, fun _ e => nomatch e⟩
  | int i =>
    obtain ⟨t, rfl⟩ := r
    cases (show T = "int" from ty)
    exact ⟨typeIs_int s i t, fun _ e => nomatch e⟩
  | ref p =>
    cases r
    rcases ty with ⟨rfl, xs, hq⟩ | ⟨rfl, o, hk, hc, hd⟩ | ⟨rfl, hk⟩ | ⟨rfl, S, n, hk⟩
    · obtain ⟨its, _, pl, _⟩ := I.list hq
      refine ⟨pl.isList.typeIs, fun a e => ?_⟩
      cases e
      obtain ⟨o, n, e, c, hd, _⟩ := pl
      exact ⟨o, e, hd⟩
    · refine ⟨⟨o, I.kIn p o hk, hc⟩, fun a e => ?_⟩
      cases e
      exact ⟨o, I.kIn _ o hk, hd⟩
    · have z : ∃ o, s.heap.get? p = some o ∧ o.ExactDict := by
        rcases hk with ⟨kvs, hk⟩ | ⟨kvs, hk⟩
        · obtain ⟨_, _, _, _, o, _, _, e, ex, _⟩ := I.hok p _ hk
          exact ⟨o, e, ex⟩
        · obtain ⟨_, _, _, _, o, _, _, e, ex, _⟩ := I.hok p _ hk
          exact ⟨o, e, ex⟩
      obtain ⟨o, e, ex⟩ := z
      refine ⟨⟨o, e, ex.1⟩, fun a e2 => ?_⟩
      cases e2
      exact ⟨o, e, ex.2.1⟩
    · obtain ⟨o, _, _, _, e, ex, _⟩ := I.hok p _ hk
      refine ⟨⟨o, e, ex.1⟩, fun a e2 => ?_⟩
      cases e2
      exact ⟨o, e, ex.2.1⟩
  | _ => exact False.elim ty
def tBM (K : PySem.W.Frag) (T : String) (r : V → List V → Hp → VK → Prop) (to : TE) (t : TA) : TE := fun σ H Q => to σ H fun x H1 => tyV K T x H1 ∧ t σ H1 fun xs H2 => r x xs H2 Q
variable {o e : Expr} {es : List Expr} {to : TE} {t : TA} {name : Str} {apos cpos : Pos} {T id : String} {r : V → List V → Hp → VK → Prop}
theorem pe_bm (pa : PlainAttrs T) (slot : Slot T name id) (hty : typeOf (.builtin id) = pure (.type "method_descriptor")) (hm : MtR X id r) (ho : PE X o to) (ha : PA X (e :: es) t)
    (hbase : attributeBase o name X.env (eval o X.env) = eval o X.env := by rfl)
    (hfew : ((backTo cpos (starEach (e :: es) X.env)).all (fun x => !x.1) && (backToKw cpos (keywordEach [] X.env)).all (fun x => x.1.isSome)
      && decide ((e :: es).length + ([] : List Keyword).length + (if ([] : List Keyword).isEmpty then 0 else 1) < 30)) = true := by rfl)
    (hline : (apos.endLine == cpos.line) = true := by rfl) (hs : starEach (e :: es) X.env = (false, eval e X.env) :: starEach es X.env := by rfl) (hplain : (backTo cpos (starEach es X.env)).any (·.1) = false := by rfl) :
    PE X (.Call (.Attribute o name apos) (e :: es) [] cpos) (tBM X.K T r to t) := by
  intro pins s σ H Q I h
  refine wpAny_Call_method_late hbase hfew hline rfl (thn (ho pins s σ H _ I h) fun v s1 ⟨x, H1, I1, r1, ty, q1⟩ => ?_)
  obtain ⟨h1, h2⟩ := tyV_is I1 r1 ty
  refine ⟨T, id, pa, slot, hty, h1, h2, ?_⟩
  have hA := ha cpos pins s1 σ H1 _ I1 q1
  rw [hs] at hA ⊢
  refine Calls.callWith_builtin (by show (false || (backTo cpos (starEach es X.env)).any (·.1)) = false; rw [hplain] <;> rfl) (Calls.evalArgs_plain ?_)
  exact thn hA fun us s2 ⟨vs, H2, I2, r2, q2⟩ => hm pins s2 σ H2 x vs v us Q I2 r1 r2 q2
/- xs.append(e), list.index on a module's tuple .. are MtR facts of 06m -/
end
end L2

namespace L2
open PySem PySem.Spec PyProof.Rows

def MtM (X : Cx) (id : String) (r : V → List V → Hp → VK → Prop) : Prop :=
  ∀ (pins : List (Addr × Obj)) (s : Shared) (σ : St) (H : Hp) (x : V) (xs : List V) (v : Value) (us : List Value) (Q : VK), Inv X pins σ H s → RelV x v → Vals xs us → r x xs H Q →
    wpAny (model X.prog X.w) X.A (call (.builtin id) (v :: us)) (EP X pins σ Q) X.xe s

/-! ### lists of values -/
theorem Vals.one : ∀ {x : V} {us : List Value}, Vals [x] us → ∃ u, us = [u] ∧ RelV x u
  | _, _, .cons r .nil => ⟨_, rfl, r⟩
section
variable {X : Cx} {pins : List (Addr × Obj)} {σ : St} {H : Hp} {s : Shared} {l b : Addr} {xs ys zs : List V}

/-! ### the two steps: a tracked list is rewritten, a new list is laid -/
theorem Inv.lset {its its' : List Value} {n : Nat} {f : Array Value → Array Value} {t' : Nat} (I : Inv X pins σ H s) (hH : H l = some (.lst xs))
    (e : s.heap.get? l = some { cls := .type "list", data := .seq its.toArray n }) (hf : f its.toArray = its'.toArray) (hv : Vals ys its') (hz : ys.length ≤ sizeLine) :
    Inv X pins σ (upd H l (.lst ys)) { s with heap := s.heap.update l (Obj.mapSeq f), toks := t' } := by
  have q := PySem.IsL.update e f
  rw [hf] at q
  refine I.write (x := l) (e := l) (by rw [hH]; exact trivial) (.inl rfl) (fun b' u hb hu => (Heap.get?_update_other s.heap (Obj.mapSeq f) (Ne.symm hb)).trans hu) ⟨_, q⟩ ?_
  exact ⟨hz, its', _, hv, q⟩
theorem Inv.lnew {its : List Value} {t' : Nat} (I : Inv X pins σ H s) (hv : Vals ys its) (hz : ys.length ≤ sizeLine) :
    Inv X pins σ (upd H s.heap.objs.size (.lst ys)) { s with heap := s.heap.push { cls := .type "list", data := .seq its.toArray }, toks := t' } :=
  I.laid (fun _ _ q => Heap.get?_push_of_some _ q) (Nat.le_refl _) ⟨hz, its, 0, hv, Heap.get?_push_size _ rfl⟩
theorem Inv.fresh (I : Inv X pins σ H s) : H s.heap.objs.size = none := I.hok.fresh (Nat.le_refl _)
theorem Inv.lstM (I : Inv X pins σ H s) (hH : H l = some (.lst xs)) : xs.length ≤ sizeLine ∧ ∃ (its : List Value) (n : Nat), Vals xs its ∧ xs.length = its.length ∧ s.heap.get? l = some { cls := .type "list", data := .seq its.toArray n } := by
  obtain ⟨z, its, n, r, e⟩ := I.hok l _ hH
  exact ⟨z, its, n, r, r.length, e⟩

theorem notLongL {n : Nat} (h : n ≤ sizeLine) : Builtin.List.listTooLong n = false := by
  unfold Builtin.List.listTooLong
  exact decide_eq_false (by omega)
end

section
variable {X : Cx}

/-! ### methods -/
def rAppend : V → List V → Hp → VK → Prop := fun x vs H Q => ∃ l xs y, x = .ref l ∧ vs = [y] ∧ H l = some (.lst xs) ∧ xs.length < sizeLine ∧ Q .non (upd H l (.lst (xs ++ [y])))
theorem mt_append : MtM X "list.append" rAppend := by
  intro pins s σ H x vs v us Q I rx rv h
  obtain ⟨l, xs, y, rfl, rfl, hH, hz, q⟩ := h
  cases rx
  obtain ⟨u, rfl, ru⟩ := rv.one
  obtain ⟨z, its, n, r, hl, e⟩ := I.lstM hH
  refine call_meets F.slot_list_append ⟨_, e, rfl⟩ F.entry_list_append (F.args_list_append_2 _ _) (PySem.list_append l its.toArray n u (by rw [List.size_toArray]; omega)) ⟨e, ?_⟩
  refine ⟨.non, _, I.lset (its' := its ++ [u]) hH e (by simp) (r.append (.cons ru .nil)) ?_, rfl, q⟩
  rw [List.length_append, List.length_singleton]
  omega

def rExtend : V → List V → Hp → VK → Prop := fun x vs H Q => ∃ l b xs zs, x = .ref l ∧ vs = [.ref b] ∧ H l = some (.lst xs) ∧ H b = some (.lst zs) ∧ xs.length + zs.length ≤ sizeLine ∧ Q .non (upd H l (.lst (xs ++ zs)))
theorem mt_extend : MtM X "list.extend" rExtend := by
  intro pins s σ H x vs v us Q I rx rv h
  obtain ⟨l, b, xs, zs, rfl, rfl, hH, hB, hz, q⟩ := h
  cases rx
  obtain ⟨u, rfl, ru⟩ := rv.one
  cases ru
  obtain ⟨z, its, n, r, hl, e⟩ := I.lstM hH
  obtain ⟨z2, its2, n2, r2, hl2, e2⟩ := I.lstM hB
  have hsz : its.toArray.size + its2.toArray.size ≤ sizeLine := by rw [List.size_toArray, List.size_toArray]; omega
  have hlong : ¬ (!its.toArray.isEmpty && Builtin.List.listTooLong (its.toArray.size + its2.toArray.size)) = true := by
    rw [notLongL hsz, Bool.and_false]
    exact Bool.false_ne_true
  refine call_meets F.slot_list_extend ⟨_, e, rfl⟩ F.entry_list_extend (F.args_list_extend_2 _ _)
    (AutoSeq1.list_extend_list_list_0 l its.toArray n b its2.toArray n2 hlong (by rw [List.size_toArray]; omega) (by omega)) ⟨e, e2, ?_⟩
  refine ⟨.non, _, I.lset (its' := its ++ its2) hH e (by simp) (r.append r2) ?_, rfl, q⟩
  rw [List.length_append]
  omega

/-! ### list + list, list += list, list * int -/
def rCat : R2 := fun x y H Q => ∃ l b xs zs, x = .ref l ∧ y = .ref b ∧ H l = some (.lst xs) ∧ H b = some (.lst zs) ∧ xs.length + zs.length ≤ sizeLine ∧ ∀ p, H p = none → Q (.ref p) (upd H p (.lst (xs ++ zs)))
theorem op_cat : OpR X (binaryOp .Add) rCat := by
  intro pins s σ H x y v u Q I rx ry h
  obtain ⟨l, b, xs, zs, rfl, rfl, hH, hB, hz, q⟩ := h
  cases rx
  cases ry
  obtain ⟨z, its, n, r, hl, e⟩ := I.lstM hH
  obtain ⟨z2, its2, n2, r2, hl2, e2⟩ := I.lstM hB
  refine PySem.P.add_list e e2 ?_ (by rw [List.size_toArray, List.size_toArray]; omega)
  have ea : its.toArray ++ its2.toArray = (its ++ its2).toArray := by simp
  rw [ea]
  exact ⟨.ref _, _, I.lnew (t' := s.toks) (r.append r2) (by rw [List.length_append]; omega), rfl, q _ I.fresh⟩
/-! ### del xs[i] -/
end

/-! ### xs[a:b] = ys -/
section
variable {prog : Program} {w : World} {A : Around} {E : Value → Shared → Prop} {s : Shared}
end

section
variable {X : Cx}
end
end L2

namespace L2
open PySem PySem.Spec PyProof.Rows

/-! ### lists of pairs as tables -/
section
variable {κ : Type} [DecidableEq κ]
def valV (kvs : List (κ × V)) (k : κ) : Option V := (kvs.find? fun kv => decide (kv.1 = k)).map (·.2)
/-- in its place, or at the end -/
def putK (kvs : List (κ × V)) (k : κ) (v : V) : List (κ × V) :=
  if (kvs.any fun kv => decide (kv.1 = k)) = true then kvs.map (fun kv => if kv.1 = k then (kv.1, v) else kv) else kvs ++ [(k, v)]
theorem valV_pos {p : κ × V} {r : List (κ × V)} {k : κ} (e : p.1 = k) : valV (p :: r) k = some p.2 := by simp [valV, List.find?_cons, e]
theorem valV_neg {p : κ × V} {r : List (κ × V)} {k : κ} (e : ¬ p.1 = k) : valV (p :: r) k = valV r k := by simp [valV, List.find?_cons, e]
theorem valV_any (k : κ) : ∀ kvs : List (κ × V), (kvs.any fun kv => decide (kv.1 = k)) = (valV kvs k).isSome
  | [] => rfl
  | p :: r => by
    rw [List.any_cons]
    by_cases e : p.1 = k
    · simp only [valV_pos e, decide_eq_true e, Bool.true_or, Option.isSome_some]
    · rw [valV_neg e, decide_eq_false e, Bool.false_or]; exact valV_any k r
theorem valV_map (k j : κ) (y : V) : ∀ kvs : List (κ × V), valV (kvs.map fun kv => if kv.1 = k then (kv.1, y) else kv) j = (valV kvs j).map fun x => if j = k then y else x
  | [] => rfl
  | p :: r => by
    have ih := valV_map k j y r
    rw [List.map_cons]
    by_cases h : p.1 = k
    · rw [if_pos h]
      by_cases e : p.1 = j
      · rw [valV_pos (p := (p.1, y)) e, valV_pos e, Option.map_some, if_pos (e.symm.trans h)]
      · rw [valV_neg (p := (p.1, y)) e, valV_neg e, ih]
    · rw [if_neg h]
      by_cases e : p.1 = j
      · rw [valV_pos (p := p) e, valV_pos e, Option.map_some, if_neg (fun z => h (e.trans z))]
      · rw [valV_neg (p := p) e, valV_neg e, ih]
theorem valV_snoc (k j : κ) (y : V) : ∀ kvs : List (κ × V), valV kvs k = none → valV (kvs ++ [(k, y)]) j = if j = k then some y else valV kvs j
  | [], _ => by
    by_cases e : k = j
    · rw [if_pos e.symm]; exact valV_pos (p := (k, y)) e
    · rw [if_neg (fun z => e z.symm)]; exact valV_neg (p := (k, y)) e
  | p :: r, hn => by
    rw [List.cons_append]
    have hk : ¬ p.1 = k := fun z => by rw [valV_pos z] at hn; cases hn
    rw [valV_neg hk] at hn
    have ih := valV_snoc k j y r hn
    by_cases e : p.1 = j
    · rw [valV_pos e, valV_pos e, if_neg (fun z => hk (e.trans z))]
    · rw [valV_neg e, valV_neg e, ih]
theorem valV_put (kvs : List (κ × V)) (k j : κ) (y : V) : valV (putK kvs k y) j = if j = k then some y else valV kvs j := by
  unfold putK
  by_cases a : (kvs.any fun kv => decide (kv.1 = k)) = true
  · rw [if_pos a, valV_map]
    rw [valV_any] at a
    by_cases e : j = k
    · obtain ⟨x, hx⟩ := Option.isSome_iff_exists.mp a
      rw [if_pos e, e, hx, Option.map_some, if_pos rfl]
    · rw [if_neg e]
      cases valV kvs j with
      | none => rfl
      | some x => rw [Option.map_some, if_neg e]
  · rw [if_neg a]
    refine valV_snoc k j y kvs ?_
    rw [valV_any] at a
    cases q : valV kvs k with
    | none => rfl
    | some x => rw [q] at a; exact (a rfl).elim
theorem length_putK (kvs : List (κ × V)) (k : κ) (v : V) : (putK kvs k v).length ≤ kvs.length + 1 := by
  unfold putK
  split
  · rw [List.length_map]; omega
  · rw [List.length_append, List.length_cons, List.length_nil]; omega
theorem putK_new {kvs : List (κ × V)} {k : κ} (v : V) (h : valV kvs k = none) : putK kvs k v = kvs ++ [(k, v)] := by
  unfold putK
  rw [valV_any, h]
  exact if_neg (by decide)

theorem RelO.isSome_eq {o : Option V} {u : Option Value} (r : RelO o u) : o.isSome = u.isSome := by
  cases o with
  | none => cases u with
    | none => rfl
    | some _ => exact (show False from r).elim
  | some _ => cases u with
    | none => exact (show False from r).elim
    | some _ => rfl
/-- raw tables of the same keys -/
theorem KV.val {kvs : List (κ × V)} {vs : List (κ × Value)} (r : KV kvs vs) (k : κ) : RelO (valV kvs k) (valueAt vs k) := by
  unfold KV at r
  induction r with
  | nil => exact True.intro
  | @cons p q ps qs h t ih =>
    obtain ⟨h1, h2⟩ := h
    by_cases e : p.1 = k
    · have e' : q.1 = k := h1.symm.trans e
      have b : valueAt (q :: qs) k = some q.2 := by simp [valueAt, List.find?_cons, e']
      rw [valV_pos e, b]; exact h2
    · have e' : ¬ q.1 = k := fun z => e (h1.trans z)
      have b : valueAt (q :: qs) k = valueAt qs k := by simp [valueAt, List.find?_cons, e']
      rw [valV_neg e, b]; exact ih
theorem KV.any {kvs : List (κ × V)} {vs : List (κ × Value)} (r : KV kvs vs) (k : κ) : (kvs.any fun kv => decide (kv.1 = k)) = vs.any fun kv => decide (kv.1 = k) := by
  unfold KV at r
  induction r with
  | nil => rfl
  | cons h t ih => rw [List.any_cons, List.any_cons, ih, h.1]
theorem KV.repl {kvs : List (κ × V)} {vs : List (κ × Value)} (r : KV kvs vs) (k : κ) {y : V} {u : Value} (ry : RelV y u) :
    KV (kvs.map fun kv => if kv.1 = k then (kv.1, y) else kv) (vs.map fun kv => if kv.1 = k then (kv.1, u) else kv) := by
  unfold KV at r ⊢
  induction r with
  | nil => exact .nil
  | @cons p q ps qs h t ih =>
    rw [List.map_cons, List.map_cons]
    refine .cons ?_ ih
    obtain ⟨h1, h2⟩ := h
    by_cases e : p.1 = k
    · rw [if_pos e, if_pos (h1.symm.trans e)]; exact ⟨h1, ry⟩
    · rw [if_neg e, if_neg (fun z => e (h1.trans z))]; exact ⟨h1, h2⟩
theorem KV.put {kvs : List (κ × V)} {vs : List (κ × Value)} (r : KV kvs vs) (k : κ) {y : V} {u : Value} (ry : RelV y u) : KV (putK kvs k y) (stored vs k u) := by
  unfold putK stored
  rw [r.any k]
  by_cases e : (vs.any fun kv => decide (kv.1 = k)) = true
  · rw [if_pos e, if_pos e]; exact r.repl k ry
  · rw [if_neg e, if_neg e]; exact Paired.snoc r ⟨rfl, ry⟩
theorem KV.length {kvs : List (κ × V)} {vs : List (κ × Value)} (r : KV kvs vs) : kvs.length = vs.length := Paired.length r
end


/-! ### a tracked dict, its keys ints and texts or tuples of these -/
theorem kV_is {P : Program} {w : World} {k : Key} {u : Value} (r : RelV (kV k) u) : (mixKind P w).is k u = true := by
  cases k with
  | inl i => obtain ⟨t, e⟩ := (show ∃ t, u = Value.int i t from r); subst e; exact mixKind_int P w i t
  | inr x => obtain ⟨t, e⟩ := (show ∃ t, u = Value.str x t from r); subst e; exact mixKind_str P w x t
theorem items_are {P : Program} {w : World} : ∀ {ks : List Key} {us : List Value}, Vals (ks.map kV) us → ItemsAre (mixKind P w) ks us
  | [], _, r => by rw [List.map_nil] at r; cases r; exact .nil
  | k :: ks, _, r => by
    rw [List.map_cons] at r
    cases r with
    | cons h t => exact .cons (kV_is h) (items_are t)

/-- raw entries of a dict with tuple keys -/
abbrev KT (H : Hp) : List (List Key × V) → List (List Key × Addr × Value) → Prop := Paired fun p q => p.1 = q.1 ∧ H q.2.1 = some (.tup (p.1.map kV)) ∧ RelV p.2 q.2.2
theorem KT.val {H : Hp} {kvs : List (List Key × V)} {xs : List (List Key × Addr × Value)} (r : KT H kvs xs) (k : List Key) : RelO (valV kvs k) ((atKey xs k).map (·.2)) := by
  induction r with
  | nil => exact True.intro
  | @cons p q ps qs h t ih =>
    obtain ⟨h1, _, h2⟩ := h
    by_cases e : p.1 = k
    · have e' : q.1 = k := h1.symm.trans e
      have b : atKey (q :: qs) k = some q.2 := by simp [atKey, List.find?_cons, e']
      rw [valV_pos e, b]; exact h2
    · have e' : ¬ q.1 = k := fun z => e (h1.trans z)
      have b : atKey (q :: qs) k = atKey qs k := by simp [atKey, List.find?_cons, e']
      rw [valV_neg e, b]; exact ih
theorem KT.repl {H : Hp} {kvs : List (List Key × V)} {xs : List (List Key × Addr × Value)} (r : KT H kvs xs) (k : List Key) {y : V} {u : Value} (ry : RelV y u) :
    KT H (kvs.map fun kv => if kv.1 = k then (kv.1, y) else kv) (xs.map (putAt k u)) := by
  induction r with
  | nil => exact .nil
  | @cons p q ps qs h t ih =>
    rw [List.map_cons, List.map_cons]
    refine .cons ?_ ih
    obtain ⟨h1, h2, h3⟩ := h
    unfold putAt
    by_cases e : p.1 = k
    · rw [if_pos e, if_pos (h1.symm.trans e)]; exact ⟨h1, h2, ry⟩
    · rw [if_neg e, if_neg (fun z => e (h1.trans z))]; exact ⟨h1, h2, h3⟩
theorem KT.put {H : Hp} {kvs : List (List Key × V)} {xs : List (List Key × Addr × Value)} (r : KT H kvs xs) (k : List Key) {b : Addr} {y : V} {u : Value} (hb : H b = some (.tup (k.map kV))) (ry : RelV y u) :
    KT H (putK kvs k y) (storedH xs k b u) := by
  have e : (kvs.any fun kv => decide (kv.1 = k)) = (atKey xs k).isSome := by
    rw [valV_any, (r.val k).isSome_eq, Option.isSome_map]
  unfold putK storedH
  rw [e]
  by_cases q : (atKey xs k).isSome = true
  · rw [if_pos q, if_pos q]; exact r.repl k ry
  · rw [if_neg q, if_neg q]; exact Paired.snoc r ⟨rfl, hb, ry⟩
theorem KT.keeps {H H' : Hp} {kvs : List (List Key × V)} {xs : List (List Key × Addr × Value)} (r : KT H kvs xs) (ht : ∀ b ys, H b = some (.tup ys) → H' b = some (.tup ys)) : KT H' kvs xs :=
  Paired.mapP r fun _ _ z => ⟨z.1, ht _ _ z.2.1, z.2.2⟩

section
variable {P : Program} {w : World} {H : Hp} {h : Heap} {a : Addr}
theorem rd_of {u : HO} (ok : HOk P w H h) (e : Rd H a u) : ObjOk P w H h a u := e.ok ok
theorem dk_rd {kvs : List (Key × V)} (ok : HOk P w H h) (e : Rd H a (.dK kvs)) : kvs.length ≤ sizeLine ∧ (a == sysModules) = false ∧ ∃ vs, KV kvs vs ∧ h.DictOf (mixKind P w) a vs :=
  show ObjOk P w H h a (.dK kvs) from rd_of ok e
theorem dk_of {kvs : List (Key × V)} (ok : HOk P w H h) (e : H a = some (.dK kvs)) : kvs.length ≤ sizeLine ∧ (a == sysModules) = false ∧ ∃ vs, KV kvs vs ∧ h.DictOf (mixKind P w) a vs := dk_rd ok (.inl e)
/-- a tracked tuple of ints and texts is a key -/
theorem key_of {ks : List Key} (ok : HOk P w H h) (e : H a = some (.tup (ks.map kV))) : (tupleKind (mixKind P w)).is h ks a := by
  obtain ⟨_, its, r, o, h1, h2, n, h3⟩ := (show ObjOk P w H h a (.tup (ks.map kV)) from ok a _ e)
  exact ⟨o, its.toArray, n, h1, h2, h3, by simpa using items_are r⟩
theorem dt_rd {kvs : List (List Key × V)} (ok : HOk P w H h) (e : Rd H a (.dT kvs)) : kvs.length ≤ sizeLine ∧ (a == sysModules) = false ∧
    ∃ xs, KT H kvs xs ∧ h.DictOfH (tupleKind (mixKind P w)) a xs := by
  obtain ⟨z, y, xs, r, o, es, ep, h1, h2, h3, h4, h5⟩ := (show ObjOk P w H h a (.dT kvs) from rd_of ok e)
  refine ⟨z, y, xs, r, o, es, ep, h1, h2, h3, h4, fun x hx => ?_, h5⟩
  have all : ∀ {l : List (List Key × V)} {m : List (List Key × Addr × Value)}, KT H l m → ∀ x ∈ m, (tupleKind (mixKind P w)).is h x.1 x.2.1 := by
    intro l m q
    induction q with
    | nil => intro x hx; exact nomatch hx
    | @cons p q ps qs hq t ih =>
      intro x hx
      rcases List.mem_cons.mp hx with e | hx
      · subst e
        exact key_of ok (by rw [← hq.1]; exact hq.2.1)
      · exact ih x hx
  exact all r x hx
theorem dt_of {kvs : List (List Key × V)} (ok : HOk P w H h) (e : H a = some (.dT kvs)) : kvs.length ≤ sizeLine ∧ (a == sysModules) = false ∧
    ∃ xs, KT H kvs xs ∧ h.DictOfH (tupleKind (mixKind P w)) a xs := dt_rd ok (.inl e)
end

/-- what the dict at a holds at the key y -/
def DGet (H : Hp) (a : Addr) (y : V) (r : Option V) : Prop :=
  (∃ kvs k, Rd H a (.dK kvs) ∧ y = kV k ∧ r = valV kvs k) ∨ ∃ kvs k b, Rd H a (.dT kvs) ∧ y = .ref b ∧ H b = some (.tup (k.map kV)) ∧ r = valV kvs k
/-- the heap behind a[y] = v -/
def DPut (H : Hp) (a : Addr) (y v : V) (H' : Hp) : Prop :=
  (∃ kvs k, H a = some (.dK kvs) ∧ y = kV k ∧ kvs.length < sizeLine ∧ H' = upd H a (.dK (putK kvs k v))) ∨
  ∃ kvs k b, H a = some (.dT kvs) ∧ y = .ref b ∧ H b = some (.tup (k.map kV)) ∧ kvs.length < sizeLine ∧ H' = upd H a (.dT (putK kvs k v))
theorem DGet.k {H : Hp} {a : Addr} {kvs : List (Key × V)} {k : Key} (e : H a = some (.dK kvs)) : DGet H a (kV k) (valV kvs k) := .inl ⟨kvs, k, .inl e, rfl, rfl⟩
theorem DPut.k {H : Hp} {a : Addr} {kvs : List (Key × V)} {k : Key} {v : V} (e : H a = some (.dK kvs)) (hl : kvs.length < sizeLine) : DPut H a (kV k) v (upd H a (.dK (putK kvs k v))) := .inl ⟨kvs, k, e, rfl, hl, rfl⟩
theorem DPut.t {H : Hp} {a b : Addr} {kvs : List (List Key × V)} {k : List Key} {v : V} (e : H a = some (.dT kvs)) (eb : H b = some (.tup (k.map kV))) (hl : kvs.length < sizeLine) :
    DPut H a (.ref b) v (upd H a (.dT (putK kvs k v))) := .inr ⟨kvs, k, b, e, rfl, eb, hl, rfl⟩


section
variable {X : Cx} {pins : List (Addr × Obj)} {σ : St} {H : Hp} {s : Shared} {a : Addr} {y v : V} {u r : Value} {o : Option V} {A : Around} {E : Value → Shared → Prop}

theorem Inv.big (I : Inv X pins σ H s) : sysModules < s.heap.objs.size := by
  have h : mainGlobals < s.heap.objs.size := (I.mod.glob.keeps I.bk).lt
  exact Nat.lt_trans (by decide) h

/-- d[y], there -/
theorem d_getItem {Q : Value → Shared → Prop} (hu : A.units + 1 < cLine) (I : Inv X pins σ H s) (g : DGet H a y (some v)) (ry : RelV y u) (h : ∀ w' s', Inv X pins σ H s' → RelV v w' → Q w' s') :
    wpAny (model X.prog X.w) A (getItem (.ref a) u) Q E s := by
  rcases g with ⟨kvs, k, e, ey, l⟩ | ⟨kvs, k, b, e, ey, eb, l⟩
  · subst ey
    obtain ⟨z, hd, vs, rel, dd⟩ := dk_rd I.hok e
    obtain ⟨w', hw, rw'⟩ := RelO.some_of (v := v) (o := valueAt vs k) (by rw [l]; exact rel.val k)
    exact wpAny_getItem_of (kV_is ry) dd.mapOf hw (h w' _ (I.tok _) rw')
  · subst ey
    cases (show u = Value.ref b from ry)
    obtain ⟨z, hd, xs, rel, dd⟩ := dt_rd I.hok e
    obtain ⟨w', hw, rw'⟩ := RelO.some_of (v := v) (o := (atKey xs k).map (·.2)) (by rw [l]; exact rel.val k)
    obtain ⟨p, hp, hp2⟩ := Option.map_eq_some_iff.mp hw
    refine wpAny_getItem_heap (tupleKind_room_in1 hu) (key_of I.hok eb) dd hp ?_
    rw [hp2]
    exact h w' _ (I.tok _) rw'
/-- a dict's object is replaced -/
theorem d_write {h' : Heap} {t' : Nat} {ob : HO} (I : Inv X pins σ H s) (mu : Mut (H a)) (hs : Heap.SameBut a s.heap h') (he : ∃ q, h'.get? a = some q) (new : ObjOk X.prog X.w (upd H a ob) h' a ob) :
    Inv X pins σ (upd H a ob) { s with heap := h', toks := t' } :=
  I.write (x := a) (e := a) mu (.inl rfl) (fun b q hb z => (hs.2 b hb).trans z) he new
theorem dk_new {P : Program} {w : World} {H' : Hp} {h' : Heap} {kvs : List (Key × V)} {vs : List (Key × Value)} (z : kvs.length ≤ sizeLine) (hd : (a == sysModules) = false) (rel : KV kvs vs) (dd : h'.DictOf (mixKind P w) a vs) :
    ObjOk P w H' h' a (.dK kvs) := ⟨z, hd, vs, rel, dd⟩
/-- d[y] = v -/
theorem d_setItem {H' : Hp} {Q : Unit → Shared → Prop} (hu : A.units + 1 < cLine) (I : Inv X pins σ H s) (g : DPut H a y v H') (ry : RelV y u) (rv : RelV v r) (h : ∀ s', Inv X pins σ H' s' → Q () s') :
    wpAny (model X.prog X.w) A (setItem (.ref a) u r) Q E s := by
  rcases g with ⟨kvs, k, e, ey, l, eH⟩ | ⟨kvs, k, b, e, ey, eb, l, eH⟩
  · subst ey eH
    obtain ⟨z, hd, vs, rel, dd⟩ := dk_of I.hok e
    have hz : vs.length ≤ sizeLine := by rw [← rel.length]; exact z
    have hl : (putK kvs k v).length ≤ sizeLine := by have := length_putK kvs k v; omega
    refine wpAny_setItem_pairs (hsz := hz) (kV_is ry) dd fun h' dd' hs => h _ ?_
    have he : ∃ q, h'.get? a = some q := let ⟨q, _, _, hq, _⟩ := dd'; ⟨q, hq⟩
    exact d_write I (by rw [e]; exact True.intro) hs he (dk_new hl hd (rel.put k rv) dd')
  · subst ey eH
    cases (show u = Value.ref b from ry)
    obtain ⟨z, hd, xs, rel, dd⟩ := dt_of I.hok e
    have hz : xs.length ≤ sizeLine := by rw [← Paired.length rel]; exact z
    have hl : (putK kvs k v).length ≤ sizeLine := by have := length_putK kvs k v; omega
    refine wpAny_setItem_heap (hsz := hz) (tupleKind_room_in1 hu) (key_of I.hok eb) dd fun h' dd' hs => h _ ?_
    obtain ⟨q, es, ep, hq, h2, h3, h4, _, h5⟩ := dd'
    refine d_write I (by rw [e]; exact True.intro) hs ⟨q, hq⟩ ⟨hl, hd, _, (rel.put k eb rv).keeps fun c ys ec => ?_, q, es, ep, hq, h2, h3, h4, h5⟩
    rw [upd_ne (ne_of ec e (fun z => nomatch z))]
    exact ec
end

section
variable {X : Cx} {pins : List (Addr × Obj)} {σ : St} {H : Hp} {s : Shared} {a : Addr} {kvs : List (Key × V)} {k : Key} {u : Value} {A : Around} {E : Value → Shared → Prop}
end


/-! ### readings and rules -/
/-- the element of a subscription, not a slice -/
def NoSl (i : Expr) : Prop := ∀ ov iv, subscripted i false ov iv = operate [ov, iv] (getItem ov iv)
theorem subD_of {prog : Program} {w : World} {A : Around} {E : Value → Shared → Prop} {s : Shared} {env : Env} {value slice : Expr} {pos : Pos} {T id : String} {Q : Value → Shared → Prop}
    (hl : typeLookup (.type T) "__getitem__" = pure (some (.builtin id))) (hs : NoSl slice)
    (h : wpAny (model prog w) A (eval value env) (fun o s₁ => wpAny (model prog w) A (eval slice env) (fun i s₂ => s₂.TypeIs o T ∧ wpAny (model prog w) A (getItem o i) Q E s₂) E s₁) E s) :
    wpAny (model prog w) A (eval (.Subscript value slice pos) env) Q E s := by
  refine Subscript_ (wpAny_mono h (fun o s₁ h₁ => wpAny_mono h₁ (fun i s₂ h₂ => ?_) fun _ _ x => x) fun _ _ x => x)
  obtain ⟨hT, h₂⟩ := h₂
  unfold subscriptTail
  refine wpAny_bind ?_
  rw [getitemInPython_of_ne hT.not_modules]
  refine wpAny_bind (wpAny_specialOf hT hl ?_)
  have fin : wpAny (model prog w) A (subscripted slice false o i) (fun r s₃ => wpAny (model prog w) A (letTemporaryGo value o r >>= fun _ => pure r) Q E s₃) E s₂ := by
    rw [hs o i]
    exact wpAny_operating (wpAny_mono h₂ (fun r s₃ h₃ => wpAny_bind (wpAny_letTemporaryGo (wpAny_pure h₃))) fun _ _ x => x)
  first
    | exact wpAny_pure (wpAny_bind fin)
    | exact wpAny_bind (wpAny_pure (wpAny_bind fin))
    | exact wpAny_bind fin

theorem dict_typeIs {X : Cx} {pins : List (Addr × Obj)} {σ : St} {H : Hp} {s : Shared} {a : Addr} {y : V} {o : Option V} (I : Inv X pins σ H s) (g : DGet H a y o) : s.TypeIs (.ref a) "dict" := by
  rcases g with ⟨kvs, k, e, _, _⟩ | ⟨kvs, k, b, e, _, _, _⟩
  · obtain ⟨_, _, vs, _, dd⟩ := dk_rd I.hok e
    exact dd.typeIs
  · obtain ⟨_, _, xs, _, dd⟩ := dt_rd I.hok e
    exact dd.typeIs
/-- d[y] -/
def tDGet (td ty : TE) : TE := fun σ H Q => td σ H fun x H1 => ty σ H1 fun y H2 => ∃ a v, x = .ref a ∧ DGet H2 a y (some v) ∧ Q v H2
/-- d[y] = v -/
def sDPut (td ty tv : TE) : TS := fun D σ H => tv σ H fun v H1 => td σ H1 fun x H2 => ty σ H2 fun y H3 => ∃ a H4, x = .ref a ∧ DPut H3 a y v H4 ∧ D.nx σ H4
section
variable {X : Cx} {o i e value : Expr} {pos pos' tpos : Pos} {td ty tv : TE}
theorem pe_dget (hu : X.A.units + 1 < cLine) (ho : PE X o td) (hi : PE X i ty) (hs : NoSl i) : PE X (.Subscript o i pos) (tDGet td ty) := by
  intro pins s σ H Q I h
  refine subD_of PySem.F.slot_dict_getitem.lookup hs (thn (ho pins s σ H _ I h) fun u s1 ⟨x, H1, I1, rx, q1⟩ => thn (hi pins s1 σ H1 _ I1 q1) fun iv s2 ⟨y, H2, I2, ry, a, v, ex, g, q2⟩ => ?_)
  subst ex
  obtain rfl : u = Value.ref a := rx
  exact ⟨dict_typeIs I2 g, d_getItem hu I2 g ry fun w' s3 I3 rw' => ⟨v, H2, I3, rw', q2⟩⟩
theorem ps_dput (hu : X.A.units + 1 < cLine) (ho : PE X o td) (hi : PE X i ty) (hv : PE X value tv) (hs : swapsWith value (some (.Subscript o i pos')) pos.line X.env = pure false) :
    PS X (.Assign [.Subscript o i pos'] value pos) (sDPut td ty tv) := by
  intro pins s σ H D I h
  refine wpAny_Assign_Subscript (thn (hv pins s σ H _ I h) fun r s1 ⟨v, H1, I1, rv, q1⟩ => thn (ho pins s1 σ H1 _ I1 q1) fun u s2 ⟨x, H2, I2, rx, q2⟩ => thn (hi pins s2 σ H2 _ I2 q2) fun iv s3 ⟨y, H3, I3, ry, a, H4, ex, g, q3⟩ => ?_) hs
  subst ex
  obtain rfl : u = Value.ref a := rx
  exact d_setItem hu I3 g ry rv fun s4 I4 => ⟨σ, H4, I4, q3⟩
end


/-! ### displays -/
theorem dk_empty {P : Program} {w : World} {H : Hp} (h : Heap) (hb : sysModules < h.objs.size) : ObjOk P w H (h.push { cls := .type "dict", data := .dict #[] }) h.objs.size (.dK []) :=
  ⟨Nat.zero_le _, beq_eq_false_iff_ne.mpr (Ne.symm (Nat.ne_of_lt hb)), [], .nil, Heap.DictOf.new h⟩
theorem dt_empty {P : Program} {w : World} {H : Hp} (h : Heap) (hb : sysModules < h.objs.size) : ObjOk P w H (h.push { cls := .type "dict", data := .dict #[] }) h.objs.size (.dT []) :=
  ⟨Nat.zero_le _, beq_eq_false_iff_ne.mpr (Ne.symm (Nat.ne_of_lt hb)), [], .nil, _, #[], 0, Heap.get?_push_size _ rfl, ⟨rfl, rfl, rfl⟩, rfl, rfl, List.nodup_nil⟩
def tDNewT : TE := fun _ H Q => ∀ p, H p = none → Q (.ref p) (upd H p (.dT []))
section
variable {X : Cx} {pos : Pos}
theorem pe_dnewT : PE X (.Dict [] [] pos) tDNewT := fun pins s σ H Q I h =>
  wpAny_Dict_empty ⟨.ref s.heap.objs.size, _, I.laid (a := s.heap.objs.size) (o := .dT []) (t' := s.toks) (fun _ _ q => Heap.get?_push_of_some _ q) (Nat.le_refl _) (dt_empty s.heap I.big), rfl, h _ (I.hok.fresh (Nat.le_refl _))⟩
end

/-- the pairs of a display, from the left -/
def tPairs : List (TE × TE) → St → Hp → (List (V × V) → Hp → Prop) → Prop
  | [], _, H, Q => Q [] H
  | (tk, tv) :: r, σ, H, Q => tk σ H fun x H1 => tv σ H1 fun y H2 => tPairs r σ H2 fun ps H3 => Q ((x, y) :: ps) H3
abbrev VV : List (V × V) → List (Value × Value) → Prop := Paired fun p q => RelV p.1 q.1 ∧ RelV p.2 q.2
def PPs (X : Cx) (pos : Pos) (keys : List (Option Expr)) (values : List Expr) (trs : List (TE × TE)) : Prop :=
  ∀ (pins : List (Addr × Obj)) (s : Shared) (σ : St) (H : Hp) (Q : List (V × V) → Hp → Prop), Inv X pins σ H s → tPairs trs σ H Q →
    wpAny (model X.prog X.w) X.A (evalPairs (pairTrees keys values X.env pos)) (fun vs s' => ∃ ps H', Inv X pins σ H' s' ∧ VV ps vs ∧ Q ps H') X.xe s
theorem pps_nil {X : Cx} {pos : Pos} : PPs X pos [] [] [] := fun pins s σ H Q I h => pairTrees_nil_walk ⟨[], H, I, .nil, h⟩
theorem pps_cons {X : Cx} {pos : Pos} {k v : Expr} {ks : List (Option Expr)} {vs : List Expr} {tk tv : TE} {trs : List (TE × TE)} (hk : PE X k tk) (hv : PE X v tv) (hr : PPs X pos ks vs trs) :
    PPs X pos (some k :: ks) (v :: vs) ((tk, tv) :: trs) := fun pins s σ H Q I h =>
  pairTrees_cons_walk (thn (hk pins s σ H _ I h) fun u s1 ⟨x, H1, I1, rx, q1⟩ => thn (hv pins s1 σ H1 _ I1 q1) fun w2 s2 ⟨y, H2, I2, ry, q2⟩ =>
    thn (hr pins s2 σ H2 _ I2 q2) fun ws s3 ⟨ps, H3, I3, rel, q3⟩ => ⟨(x, y) :: ps, H3, I3, .cons ⟨rx, ry⟩ rel, q3⟩)

def mergeK (kvs more : List (Key × V)) : List (Key × V) := more.foldl (fun acc kv => putK acc kv.1 kv.2) kvs
theorem KV.merge : ∀ {more : List (Key × V)} {rs : List (Key × Value)} {kvs : List (Key × V)} {vs : List (Key × Value)}, KV more rs → KV kvs vs → KV (mergeK kvs more) (merged vs rs) := by
  intro more rs kvs vs r
  unfold KV at r
  induction r generalizing kvs vs with
  | nil => intro q; exact q
  | @cons p q ps qs h t ih =>
    intro r0
    have e : KV (putK kvs p.1 p.2) (stored vs q.1 q.2) := by
      have := r0.put p.1 h.2
      rw [← h.1]; exact this
    exact ih e
theorem length_mergeK : ∀ (more kvs : List (Key × V)), (mergeK kvs more).length ≤ kvs.length + more.length
  | [], kvs => by show kvs.length ≤ kvs.length + 0; omega
  | p :: r, kvs => by
    have h1 := length_mergeK r (putK kvs p.1 p.2)
    have h2 := length_putK kvs p.1 p.2
    show (mergeK (putK kvs p.1 p.2) r).length ≤ _
    rw [List.length_cons]; omega
theorem carries_of {P : Program} {w : World} : ∀ {kvs : List (Key × V)} {ws : List (Value × Value)}, VV (kvs.map fun kv => (kV kv.1, kv.2)) ws → ∃ rs, Carries (mixKind P w) ws rs ∧ KV kvs rs
  | [], _, r => by rw [List.map_nil] at r; cases r; exact ⟨[], True.intro, .nil⟩
  | p :: kvs, _, r => by
    rw [List.map_cons] at r
    cases r with
    | @cons a b as bs h t =>
      obtain ⟨rs, c, q⟩ := carries_of (P := P) (w := w) t
      obtain ⟨b1, b2⟩ := b
      exact ⟨(p.1, b2) :: rs, ⟨kV_is h.1, rfl, c⟩, .cons ⟨rfl, h.2⟩ q⟩
/-- {k: v, ..} with keys ints and texts; the new dict stands empty while the pairs are made -/
def tDisp (trs : List (TE × TE)) : TE := fun σ H Q => ∀ p, H p = none → tPairs trs σ (upd H p (.dK [])) fun ps H2 => H2 p = some (.dK []) ∧ ∃ kvs : List (Key × V), ps = kvs.map (fun kv => (kV kv.1, kv.2)) ∧ kvs.length ≤ 15 ∧ Q (.ref p) (upd H2 p (.dK (mergeK [] kvs)))
theorem pe_disp {X : Cx} {pos : Pos} {keys : List (Option Expr)} {values : List Expr} {trs : List (TE × TE)} (h : PPs X pos keys values trs) (hall : keys.all (·.isSome) = true) (hl : keys.length = values.length) (h0 : keys ≠ [])
    (h15 : keys.length ≤ 15) : PE X (.Dict keys values pos) (tDisp trs) := by
  intro pins s σ H Q I q
  have hn := I.hok.fresh (Nat.le_refl s.heap.objs.size)
  have I1 := I.laid (a := s.heap.objs.size) (o := .dK []) (h' := s.heap.push { cls := .type "dict", data := .dict #[] }) (t' := s.toks) (fun _ _ q => Heap.get?_push_of_some _ q) (Nat.le_refl _) (dk_empty s.heap I.big)
  refine wpAny_Dict_walk (knd := mixKind X.prog X.w) hall hl h0 h15 (thn (h pins _ σ _ _ I1 (q _ hn)) fun ws s2 ⟨ps, H2, I2, rel, e, kvs, ep, lk, q2⟩ => ?_)
  subst ep
  obtain ⟨rs, c, rk⟩ := carries_of (P := X.prog) (w := X.w) rel
  obtain ⟨z, hd, vs0, r0, dd⟩ := dk_of I2.hok e
  cases r0
  refine ⟨rs, c, dd, fun h' dd' hs => ⟨.ref s.heap.objs.size, _, ?_, rfl, q2⟩⟩
  have hz : (mergeK [] kvs).length ≤ sizeLine := by
    have h1 := length_mergeK kvs []
    rw [List.length_nil] at h1
    rw [sizeLine_eq]; omega
  have he : ∃ q, h'.get? s.heap.objs.size = some q := let ⟨q, _, _, hq, _⟩ := dd'; ⟨q, hq⟩
  exact d_write I2 (by rw [e]; exact True.intro) hs he (dk_new hz hd (rk.merge .nil) dd')


/-! ### methods -/
/-- a method call o.m(e) of a built-in, with one argument: what must be seen of the text -/
structure M1 (X : Cx) (o : Expr) (m : Str) (apos : Pos) (e : Expr) (cpos : Pos) : Prop where
  base : attributeBase o m X.env (eval o X.env) = eval o X.env
  few : ((backTo cpos (starEach [e] X.env)).all (fun x => !x.1) && (backToKw cpos (keywordEach [] X.env)).all (fun x => x.1.isSome)
    && decide (([e] : List Expr).length + ([] : List Keyword).length + (if ([] : List Keyword).isEmpty then 0 else 1) < 30)) = true
  line : (apos.endLine == cpos.line) = true
  trees : backTo cpos (starEach [e] X.env) = [(false, eval e X.env)]
structure M2 (X : Cx) (o : Expr) (m : Str) (apos : Pos) (e f : Expr) (cpos : Pos) : Prop where
  base : attributeBase o m X.env (eval o X.env) = eval o X.env
  few : ((backTo cpos (starEach [e, f] X.env)).all (fun x => !x.1) && (backToKw cpos (keywordEach [] X.env)).all (fun x => x.1.isSome)
    && decide (([e, f] : List Expr).length + ([] : List Keyword).length + (if ([] : List Keyword).isEmpty then 0 else 1) < 30)) = true
  line : (apos.endLine == cpos.line) = true
  trees : backTo cpos (starEach [e, f] X.env) = [(false, eval e X.env), (false, eval f X.env)]

section
variable {X : Cx} {pins : List (Addr × Obj)} {σ : St} {H : Hp} {s : Shared} {a : Addr} {y d : V} {u r : Value} {o : Option V} {A : Around} {E : Value → Shared → Prop}
end

section
variable {X : Cx} {o e f : Expr} {apos cpos : Pos} {td ty tx : TE}
end

/-! ### dict(d): a copy -/
section
variable {X : Cx} {pins : List (Addr × Obj)} {σ : St} {H : Hp} {s : Shared} {a : Addr} {kvs : List (Key × V)} {A : Around} {E : Value → Shared → Prop}
end


section
variable {X : Cx} {pins : List (Addr × Obj)} {σ : St} {H : Hp} {s : Shared} {a : Addr} {y : V} {u : Value} {A : Around} {E : Value → Shared → Prop}
end
end L2

namespace Att
open PySem PySem.W PySem.Calls PyProof.Rows

/-! ### the script -/
theorem ints_of_wellAll {P : Params} {h : Heap} : ∀ (ns : List Int) (vs : List Value), WellAll P h vs (ns.map WData.int) → IntsAre vs ns := by
  intro ns
  induction ns with
  | nil =>
    intro vs w
    rw [List.map_nil] at w
    cases w
    exact .nil
  | cons n ns ih =>
    intro vs w
    rw [List.map_cons] at w
    cases w with
    | cons a b =>
      cases a
      exact .cons _ _ (ih _ b)

theorem script_of {l : OpenLaw} {n : Nat} (hn : l.most = some n) {P : Params} {h : Heap} {args : List WData} {vals : List Value}
    (hpre : l.row.toRowW.claim.pre args = true) (hwl : WellAll P h vals args) :
    ∃ a vs ns, vals = [Value.ref a] ∧ args = [WData.list (ns.map WData.int)] ∧ h.get? a = some { cls := .type "list", data := .seq vs.toArray } ∧ IntsAre vs ns ∧ ns.length ≤ n := by
  have hsh : WShape.hasAll [] args [.list .int] = true := (pre_splitW hpre).1
  have hc : l.pre.holds [] { args := args } = true := (pre_splitW hpre).2
  obtain ⟨d, r, rfl, h1, h2⟩ := hasAllW_cons hsh
  obtain rfl := hasAllW_nil h2
  obtain ⟨xs, rfl, h3⟩ := hasW_list h1
  obtain ⟨ns, rfl⟩ := items_int h3
  have hlen : ns.length ≤ n := by
    unfold OpenLaw.pre at hc
    have h4 : (WTm.not (.lt (.lit (.int (n : Int))) (.len (.arg 0)))).holds [] { args := [.list (ns.map .int)] } = true := by
      have h4 := (holds_andW hc).1
      rw [hn] at h4
      exact h4
    have h5 := condW_of h4 (w_not (w_lt w_lit (w_len_list (w_arg rfl))))
    rw [List.length_map] at h5
    refine Nat.le_of_not_lt fun q => ?_
    have q' : (n : Int) < ((ns.length : Nat) : Int) := by omega
    first
      | (rw [decide_eq_true q'] at h5; exact absurd h5 (by decide))
      | (simp at h5; omega)
  cases hwl with
  | cons w1 w2 =>
    cases w2
    cases w1 with
    | list ho hall => exact ⟨_, _, ns, rfl, rfl, ho, ints_of_wellAll ns _ hall, hlen⟩

theorem post_true (l : OpenLaw) (args : List WData) : l.row.toRowW.claim.post args (.bool true) args = true :=
  postW_of (r := l.row.toRowW) (X := (true == true))
    (show WShape.has [] (.bool true) .bool = true by first | rfl | decide | simp [WShape.has, WShape.arms, WShape.armsAll])
    (show (WTm.eq .res (.lit (.bool true))).value [] { args := args, res := some (.bool true), after := args } = some (.bool (true == true)) from w_eq_bool (w_res rfl) w_lit) rfl

/-! ### the attachment: holds_open's last premise (the goal 'hc' behind k_head) from a wpAny of the law's body -/
/-- the same from a codeAny of the CALL (for a layer whose function contracts speak of calls) -/
theorem attach_call {l : OpenLaw} {n : Nat} {q : Program} {loose : List Str} {XP : (Str → Option Value) → Heap → Prop} {YP : World → Heap → Prop} {d : DefRec}
    (hn : l.most = some n) (hdf : d.params.defaults = [])
    (call : ∀ (w : World) (s₀ s₁ : Shared) (mg mb : Str → Option Value) (fa : Addr) (o : Obj) (pm cd doc : Value) (a : Addr) (vs : List Value) (ns : List Int),
      Ground q loose [] XP w s₀ mg mb s₁.heap → YP w s₁.heap →
      s₁.heap.get? fa = some o → o.data = .func (docDef d.name d.params d.body d.scope pm cd doc) → s₁.heap.CodeRec cd d.name → mg d.name = some (.ref fa) →
      s₁.heap.get? a = some { cls := .type "list", data := .seq vs.toArray } → IntsAre vs ns → ns.length ≤ n → s₁.gens = #[] →
      codeAny (model l.prog w) callerA (.call (.ref fa) ⟨[.ref a], []⟩) (fun r s' => r = .ok (.ret (.bool true)) ∧ OldK s₁.heap s'.heap ∧ s'.os = s₁.os ∧ AllBare s'.gens) s₁) :
    WalkO q loose XP YP l.row.toRowW d [] (fun f vs => PySem.call f vs) := by
  intro w s₀ s₁ mg mb G Y fa o pm cd doc dV kV ho hd hcd hD hmg hg args vals as hpre hlay hrd hwl hlo
  obtain rfl : dV = .none := Dflts.none hD hdf
  obtain rfl : kV = .none := Dflts.noKw hD
  obtain ⟨a, vs, ns, rfl, rfl, hobj, hints, hlen⟩ := script_of hn hpre hwl
  refine enter_call (codeAny_mono (call w s₀ s₁ mg mb fa o pm cd doc a vs ns G Y ho (fd_plain hd) hcd hmg hobj hints hlen hg) fun r s' hq => ?_)
  obtain ⟨rfl, h2, h3, h4⟩ := hq
  exact ⟨.inl ⟨.bool true, .bool true, [], rfl, fun _ => rfl, .bool true, post_true l _, fun _ => ⟨List.Pairwise.nil, fun _ hm => (nomatch hm)⟩⟩, h2, h3, h4⟩

/-! ### rules over ANY heap (no ledger) from facts about the written part K: the library's own take a ledger (News) for what they write -/
section
variable {prog : Program} {w : World} {A : Around} {E : Value → Shared → Prop} {s : Shared} {K : Frag}

/-! the whole heap as the ledger: makes every rule that writes through a ledger a rule over any heap -/
def ledger (h : Heap) (L d : Addr) : List (Addr × Obj) := (List.range h.objs.size).filterMap fun a => if a = L ∨ a = d then none else (h.get? a).map fun o => (a, o)
end
end Att

namespace L2
open PySem PySem.Spec PyProof.Rows

theorem vals_ints : ∀ {vs : List Value} {ns : List Int}, IntsAre vs ns → Vals (ns.map V.int) vs
  | _, _, .nil => .nil
  | _, _, .cons n t h => .cons ⟨t, rfl⟩ (vals_ints h)

/-- nothing is tracked but the script, known to the object (or it is an object of the module) -/
def Only (H : Hp) : Prop := ∀ b, H b = none ∨ ∃ o xs, H b = some (.frz o (.lst xs))

/-- THE HEAD: the law's promise, at the heap behind the top. F, the promise of the law's def, may use that base is part of the heap (so K.In base, base.Ns mainGlobals mg stand in Mod) -/
theorem law_call {P : Program} {w : World} {K : PySem.W.Frag} {mg mb : Str → Option Value} {CX : CXT} {k : Nat} {fa a : Addr} {fd : FuncData} {x : Str} {sp : Sp} {s₁ : Shared} {vs : List Value} {ns : List Int}
    (KX : K.In s₁.heap) (hns : s₁.heap.Ns mainGlobals mg) (hb : s₁.heap.Ns builtinsNs mb) (hbb : ∀ x : Str, x ≠ "__name__" → mb x = bootBuiltins x) (hlim : s₁.heap.NoLimit) (hg : s₁.gens = #[])
    (ha : s₁.heap.get? a = some { cls := .type "list", data := .seq vs.toArray }) (hi : IntsAre vs ns) (hl : ns.length ≤ sizeLine) (hr : Room k callerA)
    (F : ∀ base : Heap, K.In base → base.Ns mainGlobals mg → FnOk P w K mg base CX k fa fd [x] sp) (hbind : ∀ (s : Shared) (u : Value), BindsTo s fd ⟨[u], []⟩ [(x, u)])
    (hsp : ∀ H : Hp, Only H → SqL K H a (ns.map V.int) → sp [.ref a] H (fun v _ => v = .bl true) fun _ _ _ => False)
    (hCX : ∀ H e s', CX [] H s₁ (fun _ _ _ => False) e s' → False) :
    codeAny (model P w) callerA (.call (.ref fa) ⟨[.ref a], []⟩) (fun r s' => r = .ok (.ret (.bool true)) ∧ OldK s₁.heap s'.heap ∧ s'.os = s₁.os ∧ AllBare s'.gens) s₁ := by
  have rv := vals_ints hi
  have lenV := hi.length
  -- from an abstract heap in which nothing but the script may be tracked
  have core : ∀ H : Hp, Only H → SqL K H a (ns.map V.int) → HOk P w H s₁.heap → (∀ b, H b ≠ none → b = a) → (H a ≠ none → K.lookup a = none) →
      codeAny (model P w) callerA (.call (.ref fa) ⟨[.ref a], []⟩) (fun r s' => r = .ok (.ret (.bool true)) ∧ OldK s₁.heap s'.heap ∧ s'.os = s₁.os ∧ AllBare s'.gens) s₁ := by
    intro H hO hS hok hA hK
    have base_of : ∀ {b : Addr} {o : Obj}, s₁.heap.get? b = some o → H b = none → (hidT s₁.heap H).get? b = some o := fun e n => hidT_get e n
    have noA : ∀ {b : Addr} {o : Obj} {es : Array DictEntry} {ep : Nat}, s₁.heap.get? b = some o → o.data = .dict es ep → H b = none := fun {b o es ep} e d => by
      cases q : H b with
      | none => rfl
      | some u =>
        have e' : b = a := hA b (by rw [q]; simp)
        subst e'
        rw [ha] at e; cases e
        have d' : Data.seq vs.toArray _ = Data.dict es ep := d
        cases d'
    have nsK : ∀ {b : Addr} {m : Str → Option Value}, s₁.heap.Ns b m → (hidT s₁.heap H).Ns b m := fun {b m} ⟨o, es, ep, e, d, r⟩ => ⟨o, es, ep, base_of e (noA e d), d, r⟩
    have hKb : K.In (hidT s₁.heap H) := fun b o e => base_of (KX b o e) (by
      cases q : H b with
      | none => rfl
      | some u =>
        have e' : b = a := hA b (by rw [q]; simp)
        subst e'
        rw [hK (by rw [q]; simp)] at e; cases e)
    have hM : Mod K mg (hidT s₁.heap H) := ⟨hKb, nsK hns, ⟨mb, nsK hb, hbb⟩, let ⟨mc, h1, h2⟩ := hlim; ⟨mc, nsK h1, h2⟩⟩
    have e0 : Env0 P w K mg (hidT s₁.heap H) callerA [] s₁ H := ⟨rfl, hM, fun b o e => of_hidT e, Nat.le_of_eq (hidT_size _ _), trivial, fun b hb => absurd (show b ∈ ([] : List Addr) from hb) (by simp), hok, .of_eq hg⟩
    refine codeAny_mono ((F _ hKb (nsK hns)).run callerA [] s₁ H ⟨[.ref a], []⟩ [.ref a] [.ref a] _ _ hr e0 (hbind s₁ (.ref a)) (.cons rfl .nil) (hsp H hO hS)) fun r s' h => ?_
    cases r with
    | error e => exact (hCX H e s' h).elim
    | ok fl =>
      cases fl with
      | next => exact False.elim h
      | brk => exact False.elim h
      | cont => exact False.elim h
      | ret u =>
        obtain ⟨v, H', os, bare, un, hok', r', q⟩ := h
        have q' : v = .bl true := q
        subst q'
        obtain rfl : u = Value.bool true := r'
        refine ⟨rfl, OldK.of_keep fun b o e => ?_, os, bare⟩
        cases q : H b with
        | none => exact un.keep b o e q (by intro z; exact absurd (show b ∈ ([] : List Addr) from z) (by simp)) (by simp)
        | some u =>
          rcases hO b with z | ⟨ob, xs, z⟩
          · rw [q] at z; cases z
          · have z2 := un.frzs b ob _ z
            obtain ⟨e1, _⟩ := hok b _ z
            obtain ⟨e2, _⟩ := hok' b _ z2
            rw [e] at e1; cases e1
            exact e2
  cases hk : K.lookup a with
  | some o =>
    -- the script is one of the module's own objects
    have e := KX a o hk
    rw [ha] at e
    cases e
    refine core (fun _ => none) (fun _ => .inl rfl) (.inr ⟨_, vs.toArray, _, hk, rfl, rfl, rfl, by rw [List.size_toArray, lenV]; exact hl, by simpa using rv⟩) (fun b u z => by have z' : (none : Option HO) = some u := z; cases z') (fun b z => absurd rfl z) fun z => absurd rfl z
  | none =>
    refine core (fun b => if b = a then some (.frz { cls := .type "list", data := .seq vs.toArray } (.lst (ns.map V.int))) else none) (fun b => ?_) (.inl (.inr ⟨{ cls := .type "list", data := .seq vs.toArray }, if_pos rfl⟩)) (fun b u z => ?_) (fun b z => ?_) fun _ => hk
    · by_cases hb : b = a
      · exact .inr ⟨_, _, if_pos hb⟩
      · exact .inl (if_neg hb)
    · by_cases hb : b = a
      · have z' := (if_pos hb).symm.trans z
        cases z'
        subst hb
        exact ⟨ha, by rw [List.length_map]; exact hl, vs, _, rv, ha⟩
      · have z' := (if_neg hb).symm.trans z
        cases z'
    · by_cases hb : b = a
      · exact hb
      · exact absurd (if_neg hb) z
end L2

namespace L2
open PySem PySem.Spec PyProof.Rows

/-- the goal that k_head leaves (case hc), from the law's promise. F gives the function object fd (K's own) once, then the promise over every base -/
theorem walk_of {l : PySem.W.OpenLaw} {n k : Nat} {q : Program} {loose : List Str} {XP : (Str → Option Value) → Heap → Prop} {YP : World → Heap → Prop} {d : DefRec} {K : Params → PySem.W.Frag} {CX : World → CXT} {sp : World → Sp} {x : Str}
    (hn : l.most = some n) (hn2 : n ≤ sizeLine) (hdf : d.params.defaults = []) (hr : Room k callerA)
    (hY : ∀ (w : World) (h : Heap), YP w h → (K w.params).In h)
    (F : ∀ (w : World) (mg : Str → Option Value) (fa : Addr) (h : Heap), (K w.params).In h → h.Ns mainGlobals mg → mg d.name = some (.ref fa) →
      ∃ fd : FuncData, (∀ (s : Shared) (u : Value), BindsTo s fd ⟨[u], []⟩ [(x, u)]) ∧
        ∀ base : Heap, (K w.params).In base → base.Ns mainGlobals mg → FnOk l.prog w (K w.params) mg base (CX w) k fa fd [x] (sp w))
    (hsp : ∀ (w : World) (H : Hp) (a : Addr) (ns : List Int), ns.length ≤ n → Only H → SqL (K w.params) H a (ns.map V.int) → sp w [.ref a] H (fun v _ => v = .bl true) fun _ _ _ => False)
    (hCX : ∀ (w : World) (H : Hp) (s : Shared) (e : Value) (s' : Shared), CX w [] H s (fun _ _ _ => False) e s' → False) :
    PySem.W.WalkO q loose XP YP l.row.toRowW d [] (fun f vs => PySem.call f vs) := by
  refine Att.attach_call hn hdf fun w s₀ s₁ mg mb fa o pm cd doc a vs ns G Y ho hd hcd hmg hobj hints hlen hg => ?_
  have KX := hY w _ Y
  obtain ⟨fd, hb, hF⟩ := F w mg fa _ KX G.T.g hmg
  exact law_call KX G.T.g G.T.b G.T.builtins G.T.nolimit hg hobj hints (Nat.le_trans hlen hn2) hr hF hb (fun H hO hS => hsp w H a ns hlen hO hS) fun H e s' => hCX w H s₁ e s'
end L2

/- THE LAST THEOREM (shape; LID, My.* are yours):
   My.Adr: a structure of the addresses that your layer names (classes, functions); My.Txt K t: a structure (Prop) of the equations over K;
   My.txt_mk : {K} {implicit addresses ..} (e1 : nsIn K mainGlobals "law" = some (some (.ref f))) (e2 : K.lookup f = some ⟨oc, od, .func (fnOf "law" "law" params body scope dV kV doc pm an cdv ct), sl⟩) (e3 : codeIn K cdv "law" = true) .. : ∃ t, My.Txt K t

set_option maxRecDepth 100000 in
set_option maxHeartbeats 0 in
theorem PySem.Challenge.cw_LID_holds : PySem.Challenge.rw_LID.Holds := by
  w_on; o_law; k_head; (case hw => w_witness2)
  k_fill
  refine L2.walk_of (l := PySem.Challenge.rw_LID) (n := 63) (k := 40) (x := "script") (CX := fun w => ..) (sp := fun _ => My.sp_law) rfl (by decide) rfl ⟨rfl, by decide, by decide⟩ (fun w h Y => PySem.W.kIn_of Y) ?F ?S ?C
  case F =>
    intro w mg fa h KX G hmg
    have T : ∃ t, My.Txt (L2.KOf KX) t := by
      dsimp only [L2.KOf]                          -- K must stand as «<heap const> w.params» for k_is
      refine' My.txt_mk ?e1 ?e2 ?e3 ..
      (case e1 => PySem.W.k_is)                    -- in the order: a name -> its address -> its object -> its parts
      (case e2 => PySem.W.k_is)
      ..
    obtain ⟨t, T⟩ := T
    have e0 := hmg.symm.trans (PySem.W.mg_of KX G T.law)
    cases e0                                       -- fa is the law's own address
    exact ⟨_, fun s u => .of_eq rfl, fun base kb nb => My.law_fn T kb nb⟩     -- if «.of_eq rfl» comes too early: refine' ⟨_, ?b, fun base kb nb => My.law_fn T kb nb⟩; exact fun s u => .of_eq rfl
  case S => exact fun w H a ns hl hO hS => ..
  case C => exact ..
(the tactic k_is has no namespace: write k_is) -/

/-! SHORT WORDS over the layer: a def of the text, its body, what a loop and a test want. -/
namespace L2
open PySem PySem.Spec PyProof.Rows

/-! ### the text by places -/
def defArgs (s : Stmt) : Arguments := match s with
  | .FunctionDef _ a _ _ _ _ _ _ _ _ => a
  | _ => { posonlyargs := [], args := [], vararg := none, kwonlyargs := [], kw_defaults := [], kwarg := none, defaults := [] }
def defBody (s : Stmt) : List Stmt := match s with
  | .FunctionDef _ _ b _ _ _ _ _ _ _ => b
  | _ => []
def defScope (s : Stmt) : Scope := match s with
  | .FunctionDef _ _ _ _ _ _ sc _ _ _ => sc
  | _ => { kind := .function, names := [], isGenerator := false, isCoroutine := false }

/-! ### no exception leaves a def -/
abbrev CX0 : CXT := fun _ _ _ _ _ _ => False
abbrev E0 : XK := fun _ _ _ => False
theorem pass0 {X : Cx} : Passes CX0 X E0 := fun _ _ _ _ _ _ _ h => h.elim

/-! ### a def (or method) of the text as it stands behind the top -/
structure Fun (K : PySem.W.Frag) (x qual : Str) (st : Stmt) (f : Addr) (fd : FuncData) : Prop where
  ex : ∃ (oc : Value) (od : Option Addr) (kV doc pm : Value) (an : Option Addr) (cdv ct : Value) (osl : Array (Option Value)),
    fd = PySem.W.fnOf x qual (defArgs st) (defBody st) (defScope st) .none kV doc pm an cdv ct ∧ K.lookup f = some ⟨oc, od, .func fd, osl⟩ ∧ PySem.W.codeIn K cdv qual = true
  kp : PySem.W.keepIn K (.ref f) = true
section
variable {P : Program} {w : World} {K : PySem.W.Frag} {mg : Str → Option Value} {base : Heap}
/-- THE RULE for a def: its body as a term of rules, and the reading of that term -/
theorem Fun.ok {x qual : Str} {st : Stmt} {f : Addr} {fd : FuncData} {N ps : List Str} {k : Nat} {sp : Sp} (F : Fun K x qual st f fd) (S : FnScope N ps (defScope st)) (len : ∀ vs H Q E, sp vs H Q E → vs.length = ps.length)
    (hbody : ∀ (cdv : Value) (A : Around) (outer : List Env) (s : Shared) (H : Hp) (vs : List V) (Q : VK) (E : XK), Room k (A.deeper (envOfC qual (defScope st) s.heap.objs.size f cdv)) → sp vs H Q E →
      ∃ t, PSs (cxOf CX0 P w K mg base N qual (defScope st) f cdv A outer s H E).nox (defBody st) t ∧ t { nx := fun _ H' => Q .non H', rt := Q } (start N vs) H) : FnOk P w K mg base CX0 (k + 1) f fd ps sp := by
  obtain ⟨oc, od, kV, doc, pm, an, cdv, ct, osl, rfl, lk, hcd⟩ := F.ex
  refine fn_of lk hcd S len fun A outer s H vs Q E hr hsp => ?_
  obtain ⟨t, h, q⟩ := hbody cdv A outer s H vs Q E hr hsp
  exact ⟨t, h.nox, q⟩
/-- how its arguments bind (no defaults): h is «fun _ _ _ _ _ _ us hl => match us, hl with | [_, _], _ => rfl», one _ a parameter -/
theorem Fun.binds {x qual : Str} {st : Stmt} {f : Addr} {fd : FuncData} {ps : List Str} (F : Fun K x qual st f fd)
    (h : ∀ (kV doc pm : Value) (an : Option Addr) (cdv ct : Value) (us : List Value), us.length = ps.length → bindArgs (PySem.W.fnOf x qual (defArgs st) (defBody st) (defScope st) .none kV doc pm an cdv ct) ⟨us, []⟩ = pure (ps.zip us)) : Binds K fd ps [] := by
  obtain ⟨oc, od, kV, doc, pm, an, cdv, ct, osl, rfl, lk, hcd⟩ := F.ex
  exact .all (h kV doc pm an cdv ct)
theorem fun_mk {x qual : Str} {st : Stmt} {f : Addr} {oc : Value} {od an : Option Addr} {osl : Array (Option Value)} {kV doc pm cdv ct : Value} (l : K.lookup f = some ⟨oc, od, .func (PySem.W.fnOf x qual (defArgs st) (defBody st) (defScope st) .none kV doc pm an cdv ct), osl⟩)
    (c : PySem.W.codeIn K cdv qual = true) (k : PySem.W.keepIn K (.ref f) = true) : Fun K x qual st f (PySem.W.fnOf x qual (defArgs st) (defBody st) (defScope st) .none kV doc pm an cdv ct) := ⟨⟨oc, od, kV, doc, pm, an, cdv, ct, osl, rfl, l, c⟩, k⟩
end
theorem hu_of {A : Around} {k : Nat} (hr : Room k A) : A.units + 1 < cLine := Nat.lt_of_le_of_lt (Nat.add_le_add_left (by decide : 1 ≤ 64) _) hr.units
/-! ### expressions in short: the name that stands in the i-th slot -/
section
variable {X : Cx}
theorem pv (i : Nat) {x : Str} {pos : Pos} (hN : X.N[i]? = some x := by rfl) (hv : Vis X.env.scope x := by first | exact Or.inl rfl | exact Or.inr (Or.inl rfl) | exact Or.inr (Or.inr rfl)) (hd : (x == ("__debug__" : Str)) = false := by decide)
    (hcd : (x == ("__classdict__" : Str)) = false := by decide) : PE X (.Name x pos) (tVar i) := pe_var hN hv hd hcd
end

/-! ### tests -/
theorem iteF {A B : Prop} (h : B) : if false = true then A else B := by
  rw [if_neg Bool.false_ne_true]
  exact h
theorem iteT {A B : Prop} (h : A) : if true = true then A else B := by
  rw [if_pos rfl]
  exact h
/-! ### heaps -/
/-- all that was tracked is as it was -/
def Same (H H' : Hp) : Prop := ∀ b o, H b = some o → H' b = some o
theorem Same.seq {K : PySem.W.Frag} {H H' : Hp} {a : Addr} {xs : List V} (e : Same H H') (h : SqL K H a xs) : SqL K H' a xs := by
  rcases h with (h | ⟨o, h⟩) | h
  · exact .inl (.inl (e _ _ h))
  · exact .inl (.inr ⟨o, e _ _ h⟩)
  · exact .inr h

section
variable {X : Cx}
end
/-! ### a dict's pairs: keys that differ -/
section
variable {κ : Type} [DecidableEq κ]
end
end L2

/-! OWN RULES 0: zip of two sequences, each a list or a tuple -/
namespace ZG
open PySem
/-- kind b: true a tuple, false a list -/
def Sq (b : Bool) (h : Heap) (l : Addr) (xs : Array Value) : Prop := match b with
  | true => h.IsTuple l xs
  | false => h.IsList l xs
def Dr (b : Bool) (h : Heap) (i l : Addr) (k : Nat) : Prop := match b with
  | true => h.IsTupleIter i l k
  | false => h.IsListIter i l k
theorem Sq.ext {b : Bool} {h h' : Heap} {l c : Addr} {xs : Array Value} (x : Sq b h l xs) (k : Heap.ExtBut c h h') (n : l ≠ c) : Sq b h' l xs := by
  cases b with
  | true => exact Heap.IsTuple.extBut (show h.IsTuple l xs from x) k n
  | false => exact Heap.IsList.extBut (show h.IsList l xs from x) k n
theorem Dr.ext {b : Bool} {h h' : Heap} {i l c : Addr} {k : Nat} (x : Dr b h i l k) (e : Heap.ExtBut c h h') (n : i ≠ c) : Dr b h' i l k := by
  cases b with
  | true => exact Heap.IsTupleIter.extBut (show h.IsTupleIter i l k from x) e n
  | false => exact Heap.IsListIter.extBut (show h.IsListIter i l k from x) e n
theorem Dr.some {b : Bool} {h : Heap} {i l : Addr} {k : Nat} (x : Dr b h i l k) : ∃ o, h.get? i = some o ∧ ∀ v, o.data ≠ .cell v := by
  cases b with
  | true => obtain ⟨o, e, _, d⟩ := (show h.IsTupleIter i l k from x); exact ⟨o, e, fun v z => by rw [d] at z; cases z⟩
  | false => obtain ⟨o, e, _, d⟩ := (show h.IsListIter i l k from x); exact ⟨o, e, fun v z => by rw [d] at z; cases z⟩
theorem Dr.at {b : Bool} {h h' : Heap} {i l : Addr} {k : Nat} (x : Dr b h i l k) (e : ∀ o, h.get? i = Option.some o → h'.get? i = Option.some o) : Dr b h' i l k := by
  cases b with
  | true => obtain ⟨o, q, r⟩ := (show h.IsTupleIter i l k from x); exact ⟨o, e o q, r⟩
  | false => obtain ⟨o, q, r⟩ := (show h.IsListIter i l k from x); exact ⟨o, e o q, r⟩
section
variable {prog : Program} {w : World} {A : Around} {E : Value → Shared → Prop} {s : Shared}
theorem tupNext {i l : Addr} {k : Nat} {xs : Array Value} {v : Value} {Q : Value → Shared → Prop} (d : s.heap.IsTupleIter i l k) (q : s.heap.IsTuple l xs) (hv : xs[k]? = some v)
    (r : ∀ g, g.IsTupleIter i l (k + 1) → Heap.SameBut i s.heap g → Q v { s with heap := g }) : wpAny (model prog w) A (Builtin.SmallTypes.nextOf (.ref i)) Q E s := by
  obtain ⟨oi, hoi, ci, di⟩ := id d
  obtain ⟨ol, hol, _, nl, dl⟩ := q
  unfold Builtin.SmallTypes.nextOf
  refine wpAny_bind (wpAny_callSpecial?_slot (name := Str.ofString "__next__") d.typeIs F.slot_tuple_iterator_next (wpAny_call_entry F.slot_tuple_iterator_next d.typeIs F.entry_tuple_iterator_next ?_ (F.args_tuple_iterator_next_1 _)))
  show wpAny _ _ (field (.ref i) 0 >>= _) _ _ s
  refine wpAny_bind (wpAny_field hoi di (x := .ref l) rfl ?_)
  show wpAny _ _ (if (Value.ref l == Value.none) = true then _ else _) _ _ s
  rw [if_neg (show ¬ ((Value.ref l == Value.none) = true) from Bool.false_ne_true)]
  show wpAny _ _ (field (.ref i) 1 >>= _) _ _ s
  refine wpAny_bind (wpAny_field hoi di (x := .int k 0) rfl ?_)
  show wpAny _ _ (seqItems? (.ref l) >>= _) _ _ s
  refine wpAny_bind (wpAny_seqItems hol dl ?_)
  simp only [Int.toNat_natCast, hv]
  refine wpAny_bind (wpAny_setField hoi di (by simp) (wpAny_pure ⟨v, rfl, wpAny_pure (r _ ?_ (Heap.SameBut.update ..))⟩))
  exact ⟨_, Heap.get?_update_self _ hoi (Obj.isFreed_of_fields (Obj.data_mapFields di _)), (Obj.cls_mapFields ..).trans ci, by rw [Obj.data_mapFields di]; simp [rawInt]⟩
theorem tupEnd {i l : Addr} {k : Nat} {xs : Array Value} {Q : Value → Shared → Prop} (hh : A.handled = none) (d : s.heap.IsTupleIter i l k) (q : s.heap.IsTuple l xs) (hv : xs[k]? = none)
    (r : ∀ g e, Heap.ExtBut i s.heap g → (∃ o, g.get? e = some o ∧ o.cls = .type "StopIteration") → E (.ref e) { s with heap := g }) : wpAny (model prog w) A (Builtin.SmallTypes.nextOf (.ref i)) Q E s := by
  obtain ⟨oi, hoi, ci, di⟩ := id d
  obtain ⟨ol, hol, _, nl, dl⟩ := q
  unfold Builtin.SmallTypes.nextOf
  refine wpAny_bind (wpAny_callSpecial?_slot (name := Str.ofString "__next__") d.typeIs F.slot_tuple_iterator_next (wpAny_call_entry F.slot_tuple_iterator_next d.typeIs F.entry_tuple_iterator_next ?_ (F.args_tuple_iterator_next_1 _)))
  show wpAny _ _ (field (.ref i) 0 >>= _) _ _ s
  refine wpAny_bind (wpAny_field hoi di (x := .ref l) rfl ?_)
  show wpAny _ _ (if (Value.ref l == Value.none) = true then _ else _) _ _ s
  rw [if_neg (show ¬ ((Value.ref l == Value.none) = true) from Bool.false_ne_true)]
  show wpAny _ _ (field (.ref i) 1 >>= _) _ _ s
  refine wpAny_bind (wpAny_field hoi di (x := .int k 0) rfl ?_)
  show wpAny _ _ (seqItems? (.ref l) >>= _) _ _ s
  refine wpAny_bind (wpAny_seqItems hol dl ?_)
  simp only [Int.toNat_natCast, hv]
  refine wpAny_bind (wpAny_rule (wpAny_bind (wpAny_setField hoi di (by simp) ?_)))
  show wpAny _ _ (newExc (.type "StopIteration") [] >>= _) _ _ _
  refine wpAny_bind ?_
  simp only [newExc, newTuple]
  refine wpAny_bind (wpAny_newObj_type ?_ (by size_fits))
  refine wpAny_bind (m := firstArgMember _ _) (wpAny_of_eq (a := Value.none) (by first | rfl | (simp only [firstArgMember]; rfl)) ?_)
  refine wpAny_newObj_type ?_ (by size_fits)
  simp only [raiseNew]
  refine wpAny_bind (wpAny_handled ?_)
  first | rw [show A.in1.handled = none from hh] | rw [hh]
  refine wpAny_bind (wpAny_pure (wpAny_throw ?_))
  exact r _ _ (((Heap.SameBut.update ..).extBut.push _).push _) ⟨_, Heap.get?_push_size _ rfl, rfl⟩
/-- one drawn -/
theorem drNext {b : Bool} {i l : Addr} {k : Nat} {xs : Array Value} {v : Value} {Q : Value → Shared → Prop} (d : Dr b s.heap i l k) (q : Sq b s.heap l xs) (hv : xs[k]? = some v)
    (r : ∀ g, Dr b g i l (k + 1) → Heap.SameBut i s.heap g → Q v { s with heap := g }) : wpAny (model prog w) A (Builtin.SmallTypes.nextOf (.ref i)) Q E s := by
  cases b with
  | true => exact tupNext d q hv r
  | false => exact wpAny_nextOf_list_item d q hv r
theorem drEnd {b : Bool} {i l : Addr} {k : Nat} {xs : Array Value} {Q : Value → Shared → Prop} (hh : A.handled = none) (d : Dr b s.heap i l k) (q : Sq b s.heap l xs) (hv : xs[k]? = none)
    (r : ∀ g e, Heap.ExtBut i s.heap g → (∃ o, g.get? e = some o ∧ o.cls = .type "StopIteration") → E (.ref e) { s with heap := g }) : wpAny (model prog w) A (Builtin.SmallTypes.nextOf (.ref i)) Q E s := by
  cases b with
  | true => exact tupEnd hh d q hv r
  | false => exact wpAny_nextOf_list_end hh d q hv r
/-- the zip's five records stand apart, and apart from the sequences -/
structure Off (z TI TO i1 i2 l1 l2 : Addr) : Prop where
  a1 : TI ≠ z
  a2 : TO ≠ z
  a3 : i1 ≠ z
  a4 : i2 ≠ z
  a5 : TI ≠ TO
  a6 : TI ≠ i1
  a7 : TI ≠ i2
  a8 : TO ≠ i1
  a9 : TO ≠ i2
  b1 : i1 ≠ i2
  c1 : l1 ≠ z
  c2 : l1 ≠ TO
  c3 : l1 ≠ i1
  c4 : l1 ≠ i2
  e1 : l2 ≠ z
  e2 : l2 ≠ TO
  e3 : l2 ≠ i1
  e4 : l2 ≠ i2

theorem zNext {b1 b2 : Bool} {z TI TO i1 i2 l1 l2 : Addr} {k : Nat} {xs ys : Array Value} {x y a b : Value} {Q : Value → Shared → Prop} (D : Off z TI TO i1 i2 l1 l2)
    (hz : IsZip s.heap z TI TO .none) (hi : IsPair s.heap TI (.ref i1) (.ref i2)) (ho : IsPair s.heap TO a b)
    (d1 : Dr b1 s.heap i1 l1 k) (d2 : Dr b2 s.heap i2 l2 k) (q1 : Sq b1 s.heap l1 xs) (q2 : Sq b2 s.heap l2 ys) (hx : xs[k]? = some x) (hy : ys[k]? = some y)
    (r : ∀ g, IsZip g z TI TO (rawInt s.heap.objs.size) → IsPair g TO x y → Dr b1 g i1 l1 (k + 1) → Dr b2 g i2 l2 (k + 1) → IsPair g s.heap.objs.size x y → g.objs.size = s.heap.objs.size + 1 →
      (∀ c o, c ≠ z → c ≠ TO → c ≠ i1 → c ≠ i2 → s.heap.get? c = some o → g.get? c = some o) → Q (.ref s.heap.objs.size) { s with heap := g }) :
    wpAny (model prog w) A (Builtin.«zip.__next__» ⟨[.ref z], []⟩) (fun fin s' => ∃ v, fin = .done (.ret v) ∧ Q v s') E s := by
  show wpAny _ _ (field (.ref z) 2 >>= _) _ _ _
  refine wpAny_bind (wpAny_field hz rfl (x := .bool false) rfl ?_)
  show wpAny _ _ (field (.ref z) 3 >>= _) _ _ _
  refine wpAny_bind (wpAny_field hz rfl (x := .ref TI) rfl (wpAny_bind (wpAny_seqItems hi rfl ?_)))
  show wpAny _ _ (Builtin.SmallTypes.ownedTupleIsFree (.ref z) >>= _) _ _ _
  refine wpAny_bind ?_
  unfold Builtin.SmallTypes.ownedTupleIsFree
  refine wpAny_bind (wpAny_field hz rfl (x := .none) rfl (wpAny_pure ?_))
  simp only [if_true]
  refine wpAny_bind (wpAny_rule (wpAny_bind (wpAny_field hz rfl (x := .ref TO) rfl (wpAny_bind (wpAny_setField_rec hz (by simp) fun g1 z1 s1 => ?_)))))
  have z1 : IsZip g1 z TI TO .ellipsis := z1
  refine wpAny_bind ?_
  simp only [List.zipIdx_cons, List.zipIdx_nil, List.forIn_cons, List.forIn_nil]
  refine wpAny_bind (wpAny_bind (wpAny_onRaise ?_))
  show wpAny _ _ (Builtin.SmallTypes.nextOf (.ref i1) >>= _) _ _ _
  refine wpAny_bind (drNext (d1.ext s1.extBut D.a3) (q1.ext s1.extBut D.c1) hx fun g2 w2 s2 => wpAny_pure ?_)
  have o2 : IsPair g2 TO a b := s2.extBut _ _ D.a8 (s1.extBut _ _ D.a2 ho)
  refine wpAny_bind (wpAny_seqItems o2 rfl (wpAny_bind (wpAny_updateSeq_pair o2 fun g3 o3 s3 => ?_)))
  have o3 : IsPair g3 TO x b := o3
  refine wpAny_bind (wpAny_letGo (wpAny_pure (wpAny_bind (wpAny_bind (wpAny_onRaise ?_)))))
  show wpAny _ _ (Builtin.SmallTypes.nextOf (.ref i2) >>= _) _ _ _
  refine wpAny_bind (drNext (((d2.ext s1.extBut D.a4).ext s2.extBut D.b1.symm).ext s3.extBut D.a9.symm) (((q2.ext s1.extBut D.e1).ext s2.extBut D.e3).ext s3.extBut D.e2) hy fun g4 w4 s4 => wpAny_pure ?_)
  have o4 : IsPair g4 TO x b := s4.extBut _ _ D.a9 o3
  refine wpAny_bind (wpAny_seqItems o4 rfl (wpAny_bind (wpAny_updateSeq_pair o4 fun g5 o5 s5 => ?_)))
  have o5 : IsPair g5 TO x y := o5
  refine wpAny_bind (wpAny_letGo (wpAny_pure (wpAny_pure (wpAny_bind (wpAny_seqItems o5 rfl (wpAny_bind (wpAny_newTuple ?_)))))))
  have sz : g5.objs.size = s.heap.objs.size := by rw [s5.1, s4.1, s3.1, s2.1, s1.1]
  have z5 : IsZip g5 z TI TO .ellipsis := s5.extBut _ _ D.a2.symm (s4.extBut _ _ D.a4.symm (s3.extBut _ _ D.a2.symm (s2.extBut _ _ D.a3.symm z1)))
  have k5 : ∀ c o, c ≠ z → c ≠ TO → c ≠ i1 → c ≠ i2 → s.heap.get? c = some o → g5.get? c = some o := fun c o n1 n2 n3 n4 e =>
    s5.extBut _ _ n2 (s4.extBut _ _ n4 (s3.extBut _ _ n2 (s2.extBut _ _ n3 (s1.extBut _ _ n1 e))))
  have w15 : Dr b1 g5 i1 l1 (k + 1) := ((w2.ext s3.extBut D.a8.symm).ext s4.extBut D.b1).ext s5.extBut D.a8.symm
  have w25 : Dr b2 g5 i2 l2 (k + 1) := w4.ext s5.extBut D.a9.symm
  have zlt : z < g5.objs.size := Heap.lt_size z5
  show wpAny _ _ (Builtin.SmallTypes.ownedTupleHandOut (.ref z) (.ref g5.objs.size) >>= _) _ _ _
  refine wpAny_bind ?_
  unfold Builtin.SmallTypes.ownedTupleHandOut
  have z6 : IsZip (g5.push { cls := .type "tuple", data := .seq #[x, y] }) z TI TO .ellipsis := Heap.get?_push_of_some _ z5
  refine wpAny_bind (wpAny_setField_rec z6 (by simp) fun g7 z7 s7 => ?_)
  have z7 : IsZip g7 z TI TO (rawInt g5.objs.size) := z7
  refine wpAny_setField_rec z7 (by simp) fun g8 z8 s8 => ?_
  have z8 : IsZip g8 z TI TO (rawInt g5.objs.size) := z8
  have up : ∀ c o, c ≠ z → g5.get? c = some o → g8.get? c = some o := fun c o n e => s8.extBut _ _ n (s7.extBut _ _ n (Heap.get?_push_of_some _ e))
  have t8 : IsPair g8 g5.objs.size x y := s8.extBut _ _ (Nat.ne_of_gt zlt) (s7.extBut _ _ (Nat.ne_of_gt zlt) (Heap.get?_push_size _ rfl))
  have e8 : g8.objs.size = g5.objs.size + 1 := by rw [s8.1, s7.1, Heap.size_push]
  rw [sz] at z8 t8 e8
  refine wpAny_pure ⟨_, rfl, ?_⟩
  show Q (.ref g5.objs.size) _
  rw [sz]
  exact r g8 z8 (up _ _ D.a2 o5) (w15.at fun o e => up _ o D.a3 e) (w25.at fun o e => up _ o D.a4 e) t8 e8 fun c o n1 n2 n3 n4 e => up c o n1 (k5 c o n1 n2 n3 n4 e)

theorem zEnd {b1 b2 : Bool} {z TI TO i1 i2 l1 l2 : Addr} {k : Nat} {xs ys : Array Value} {a b : Value} {Q : Fin → Shared → Prop} (hh : A.handled = none) (D : Off z TI TO i1 i2 l1 l2)
    (hz : IsZip s.heap z TI TO .none) (hi : IsPair s.heap TI (.ref i1) (.ref i2)) (ho : IsPair s.heap TO a b)
    (d1 : Dr b1 s.heap i1 l1 k) (d2 : Dr b2 s.heap i2 l2 k) (q1 : Sq b1 s.heap l1 xs) (q2 : Sq b2 s.heap l2 ys) (hn : xs[k]? = none ∨ ys[k]? = none)
    (r : ∀ g e, (∀ c o, c ≠ z → c ≠ TO → c ≠ i1 → c ≠ i2 → s.heap.get? c = some o → g.get? c = some o) → (∃ o, g.get? e = some o ∧ o.cls = .type "StopIteration") → E (.ref e) { s with heap := g }) :
    wpAny (model prog w) A (Builtin.«zip.__next__» ⟨[.ref z], []⟩) Q E s := by
  show wpAny _ _ (field (.ref z) 2 >>= _) _ _ _
  refine wpAny_bind (wpAny_field hz rfl (x := .bool false) rfl ?_)
  show wpAny _ _ (field (.ref z) 3 >>= _) _ _ _
  refine wpAny_bind (wpAny_field hz rfl (x := .ref TI) rfl (wpAny_bind (wpAny_seqItems hi rfl ?_)))
  show wpAny _ _ (Builtin.SmallTypes.ownedTupleIsFree (.ref z) >>= _) _ _ _
  refine wpAny_bind ?_
  unfold Builtin.SmallTypes.ownedTupleIsFree
  refine wpAny_bind (wpAny_field hz rfl (x := .none) rfl (wpAny_pure ?_))
  simp only [if_true]
  refine wpAny_bind (wpAny_rule (wpAny_bind (wpAny_field hz rfl (x := .ref TO) rfl (wpAny_bind (wpAny_setField_rec hz (by simp) fun g1 z1 s1 => ?_)))))
  have z1 : IsZip g1 z TI TO .ellipsis := z1
  refine wpAny_bind ?_
  simp only [List.zipIdx_cons, List.zipIdx_nil, List.forIn_cons, List.forIn_nil]
  refine wpAny_bind (wpAny_bind (wpAny_onRaise ?_))
  show wpAny _ _ (Builtin.SmallTypes.nextOf (.ref i1) >>= _) _ _ _
  cases hx : xs[k]? with
  | none =>
    refine wpAny_bind (drEnd hh (d1.ext s1.extBut D.a3) (q1.ext s1.extBut D.c1) hx fun g2 e s2 he => ?_)
    obtain ⟨oe, hoe, ce⟩ := he
    have z2 : IsZip g2 z TI TO .ellipsis := s2 _ _ D.a3.symm z1
    have ne : e ≠ z := fun q => by subst q; rw [z2] at hoe; cases hoe; simp at ce
    exact wpAny_setField_rec z2 (by simp) fun g3 _ s3 => r g3 e (fun c o n1 _ n3 _ q => s3.extBut _ _ n1 (s2 _ _ n3 (s1.extBut _ _ n1 q))) ⟨oe, s3.extBut _ _ ne hoe, ce⟩
  | some x =>
    have hy : ys[k]? = none := by
      rcases hn with h | h
      · rw [hx] at h; cases h
      · exact h
    refine wpAny_bind (drNext (d1.ext s1.extBut D.a3) (q1.ext s1.extBut D.c1) hx fun g2 w2 s2 => wpAny_pure ?_)
    have o2 : IsPair g2 TO a b := s2.extBut _ _ D.a8 (s1.extBut _ _ D.a2 ho)
    refine wpAny_bind (wpAny_seqItems o2 rfl (wpAny_bind (wpAny_updateSeq_pair o2 fun g3 o3 s3 => ?_)))
    refine wpAny_bind (wpAny_letGo (wpAny_pure (wpAny_bind (wpAny_bind (wpAny_onRaise ?_)))))
    show wpAny _ _ (Builtin.SmallTypes.nextOf (.ref i2) >>= _) _ _ _
    refine wpAny_bind (drEnd hh (((d2.ext s1.extBut D.a4).ext s2.extBut D.b1.symm).ext s3.extBut D.a9.symm) (((q2.ext s1.extBut D.e1).ext s2.extBut D.e3).ext s3.extBut D.e2) hy fun g4 e s4 he => ?_)
    obtain ⟨oe, hoe, ce⟩ := he
    have z4 : IsZip g4 z TI TO .ellipsis := s4 _ _ D.a4.symm (s3.extBut _ _ D.a2.symm (s2.extBut _ _ D.a3.symm z1))
    have ne : e ≠ z := fun q => by subst q; rw [z4] at hoe; cases hoe; simp at ce
    exact wpAny_setField_rec z4 (by simp) fun g5 _ s5 => r g5 e (fun c o n1 n2 n3 n4 q => s5.extBut _ _ n1 (s4 _ _ n4 (s3.extBut _ _ n2 (s2.extBut _ _ n3 (s1.extBut _ _ n1 q))))) ⟨oe, s5.extBut _ _ ne hoe, ce⟩

theorem pyNext_item {b1 b2 : Bool} {z TI TO i1 i2 l1 l2 : Addr} {k : Nat} {xs ys : Array Value} {x y a b : Value} {Q : Option Value → Shared → Prop} (D : Off z TI TO i1 i2 l1 l2)
    (hz : IsZip s.heap z TI TO .none) (hi : IsPair s.heap TI (.ref i1) (.ref i2)) (ho : IsPair s.heap TO a b)
    (d1 : Dr b1 s.heap i1 l1 k) (d2 : Dr b2 s.heap i2 l2 k) (q1 : Sq b1 s.heap l1 xs) (q2 : Sq b2 s.heap l2 ys) (hx : xs[k]? = some x) (hy : ys[k]? = some y)
    (r : ∀ g, IsZip g z TI TO (rawInt s.heap.objs.size) → IsPair g TO x y → Dr b1 g i1 l1 (k + 1) → Dr b2 g i2 l2 (k + 1) → IsPair g s.heap.objs.size x y → g.objs.size = s.heap.objs.size + 1 →
      (∀ c o, c ≠ z → c ≠ TO → c ≠ i1 → c ≠ i2 → s.heap.get? c = some o → g.get? c = some o) → Q (some (.ref s.heap.objs.size)) { s with heap := g }) :
    wpAny (model prog w) A (pyNext (.ref z)) Q E s := by
  have hT : s.TypeIs (.ref z) "zip" := ⟨_, hz, rfl⟩
  unfold pyNext
  refine wpAny_bind (wpAny_attempt (wpAny_callSpecial?_slot (name := Str.ofString "__next__") hT F.slot_zip_next (wpAny_call_entry F.slot_zip_next hT F.entry_zip_next ?_ (F.args_zip_next_1 _))))
  exact zNext D hz hi ho d1 d2 q1 q2 hx hy fun g p1 p2 p3 p4 p5 p6 p7 => wpAny_pure (r g p1 p2 p3 p4 p5 p6 p7)
theorem pyNext_end {b1 b2 : Bool} {z TI TO i1 i2 l1 l2 : Addr} {k : Nat} {xs ys : Array Value} {a b : Value} {Q : Option Value → Shared → Prop} (hh : A.handled = none) (D : Off z TI TO i1 i2 l1 l2)
    (hz : IsZip s.heap z TI TO .none) (hi : IsPair s.heap TI (.ref i1) (.ref i2)) (ho : IsPair s.heap TO a b)
    (d1 : Dr b1 s.heap i1 l1 k) (d2 : Dr b2 s.heap i2 l2 k) (q1 : Sq b1 s.heap l1 xs) (q2 : Sq b2 s.heap l2 ys) (hn : xs[k]? = none ∨ ys[k]? = none)
    (r : ∀ g, (∀ c o, c ≠ z → c ≠ TO → c ≠ i1 → c ≠ i2 → s.heap.get? c = some o → g.get? c = some o) → Q none { s with heap := g }) : wpAny (model prog w) A (pyNext (.ref z)) Q E s := by
  have hT : s.TypeIs (.ref z) "zip" := ⟨_, hz, rfl⟩
  unfold pyNext
  refine wpAny_bind (wpAny_attempt (wpAny_callSpecial?_slot (name := Str.ofString "__next__") hT F.slot_zip_next (wpAny_call_entry F.slot_zip_next hT F.entry_zip_next (zEnd hh D hz hi ho d1 d2 q1 q2 hn fun g e k he => ?_) (F.args_zip_next_1 _))))
  obtain ⟨o, he, hc⟩ := he
  exact wpAny_bind (wpAny_isInstance (T := "StopIteration") (b := true) ⟨o, he, hc⟩ isSubtype_stop (wpAny_pure (r _ k)))

end
def nm (b : Bool) : String := if b = true then "tuple_iterator" else "list_iterator"
abbrev Z1 (h : Heap) (b1 : Bool) (l1 : Addr) : Heap := h.push { cls := .type (nm b1), data := .fields #[.ref l1, .int 0 0] }
abbrev Z2 (h : Heap) (b1 b2 : Bool) (l1 l2 : Addr) : Heap := (Z1 h b1 l1).push { cls := .type (nm b2), data := .fields #[.ref l2, .int 0 0] }
abbrev Z3 (h : Heap) (b1 b2 : Bool) (l1 l2 : Addr) : Heap := (Z2 h b1 b2 l1 l2).push { cls := .type "tuple", data := .seq #[.ref h.objs.size, .ref (Z1 h b1 l1).objs.size] }
abbrev Z4 (h : Heap) (b1 b2 : Bool) (l1 l2 : Addr) : Heap := (Z3 h b1 b2 l1 l2).push { cls := .type "tuple", data := .seq #[.none, .none] }
abbrev Z5 (h : Heap) (b1 b2 : Bool) (l1 l2 : Addr) : Heap := (Z4 h b1 b2 l1 l2).push { cls := .type "zip", data := .fields #[.none, .bool false, .bool false, .ref (Z2 h b1 b2 l1 l2).objs.size, .ref (Z3 h b1 b2 l1 l2).objs.size] }
set_option maxHeartbeats 4000000 in
theorem new_zip (b1 b2 : Bool) (l1 l2 : Addr) (xs ys : Array Value) :
    Meets (Builtin.«zip.__new__» ⟨[.type "zip", .ref l1, .ref l2], []⟩) (fun _ R s => Sq b1 s.heap l1 xs ∧ Sq b2 s.heap l2 ys ∧ R (.ok (.ret (.ref (Z4 s.heap b1 b2 l1 l2).objs.size))) { s with heap := Z5 s.heap b1 b2 l1 l2 }) :=
  .of_wp fun prog w A R s h => by
    obtain ⟨hp, g, d, tk, os⟩ := s
    obtain ⟨q1, q2, h⟩ := h
    have hsub := sub_zip
    cases b1 with
    | false =>
      have p1 : Heap.IsList (Shared.heap ⟨hp, g, d, tk, os⟩) l1 xs := q1
      cases b2 with
      | false =>
        have p2 : Heap.IsList (Shared.heap ⟨hp.push { cls := .type "list_iterator", data := .fields #[.ref l1, .int 0 0] }, g, d, tk, os⟩) l2 ys := Heap.IsList.push q2 _
        wp_walk using wpAny_pyIter_list p1, wpAny_pyIter_list p2
        exact ⟨_, rfl, h⟩
      | true =>
        have p2 : Heap.IsTuple (Shared.heap ⟨hp.push { cls := .type "list_iterator", data := .fields #[.ref l1, .int 0 0] }, g, d, tk, os⟩) l2 ys := Heap.IsTuple.push q2 _
        wp_walk using wpAny_pyIter_list p1, wpAny_pyIter_tuple p2
        exact ⟨_, rfl, h⟩
    | true =>
      have p1 : Heap.IsTuple (Shared.heap ⟨hp, g, d, tk, os⟩) l1 xs := q1
      cases b2 with
      | false =>
        have p2 : Heap.IsList (Shared.heap ⟨hp.push { cls := .type "tuple_iterator", data := .fields #[.ref l1, .int 0 0] }, g, d, tk, os⟩) l2 ys := Heap.IsList.push q2 _
        wp_walk using wpAny_pyIter_tuple p1, wpAny_pyIter_list p2
        exact ⟨_, rfl, h⟩
      | true =>
        have p2 : Heap.IsTuple (Shared.heap ⟨hp.push { cls := .type "tuple_iterator", data := .fields #[.ref l1, .int 0 0] }, g, d, tk, os⟩) l2 ys := Heap.IsTuple.push q2 _
        wp_walk using wpAny_pyIter_tuple p1, wpAny_pyIter_tuple p2
        exact ⟨_, rfl, h⟩
section
variable {prog : Program} {w : World} {A : Around} {E : Value → Shared → Prop} {s : Shared}
theorem call_zip {b1 b2 : Bool} {l1 l2 : Addr} {xs ys : Array Value} {Q : Value → Shared → Prop} (q1 : Sq b1 s.heap l1 xs) (q2 : Sq b2 s.heap l2 ys)
    (r : ∀ g, IsZip g (s.heap.objs.size + 4) (s.heap.objs.size + 2) (s.heap.objs.size + 3) .none → IsPair g (s.heap.objs.size + 2) (.ref s.heap.objs.size) (.ref (s.heap.objs.size + 1)) → IsPair g (s.heap.objs.size + 3) .none .none →
        Dr b1 g s.heap.objs.size l1 0 → Dr b2 g (s.heap.objs.size + 1) l2 0 → g.objs.size = s.heap.objs.size + 5 → (∀ c o, s.heap.get? c = some o → g.get? c = some o) → Q (.ref (s.heap.objs.size + 4)) { s with heap := g }) :
    wpAny (model prog w) A (call (.type "zip") [.ref l1, .ref l2]) Q E s := by
  refine callType_new F.called_zip (by decide) (F.typeCall_zip_2 _ _) (F.newCall_zip_2 _ _) (fun obj => F.args_object_init_3 obj _ _) F.entry_zip_new (new_zip b1 b2 l1 l2 xs ys) ⟨q1, q2, ?_⟩
  have z1 : (Z1 s.heap b1 l1).objs.size = s.heap.objs.size + 1 := Heap.size_push ..
  have z2 : (Z2 s.heap b1 b2 l1 l2).objs.size = s.heap.objs.size + 2 := by rw [Heap.size_push, z1]
  have z3 : (Z3 s.heap b1 b2 l1 l2).objs.size = s.heap.objs.size + 3 := by rw [Heap.size_push, z2]
  have z4 : (Z4 s.heap b1 b2 l1 l2).objs.size = s.heap.objs.size + 4 := by rw [Heap.size_push, z3]
  have z5 : (Z5 s.heap b1 b2 l1 l2).objs.size = s.heap.objs.size + 5 := by rw [Heap.size_push, z4]
  have u5 : ∀ c o, (Z4 s.heap b1 b2 l1 l2).get? c = some o → (Z5 s.heap b1 b2 l1 l2).get? c = some o := fun c o e => Heap.get?_push_of_some _ e
  have u4 : ∀ c o, (Z3 s.heap b1 b2 l1 l2).get? c = some o → (Z5 s.heap b1 b2 l1 l2).get? c = some o := fun c o e => u5 c o (Heap.get?_push_of_some _ e)
  have u3 : ∀ c o, (Z2 s.heap b1 b2 l1 l2).get? c = some o → (Z5 s.heap b1 b2 l1 l2).get? c = some o := fun c o e => u4 c o (Heap.get?_push_of_some _ e)
  have u2 : ∀ c o, (Z1 s.heap b1 l1).get? c = some o → (Z5 s.heap b1 b2 l1 l2).get? c = some o := fun c o e => u3 c o (Heap.get?_push_of_some _ e)
  have g5 : (Z5 s.heap b1 b2 l1 l2).get? (Z4 s.heap b1 b2 l1 l2).objs.size = some _ := Heap.get?_push_size _ rfl
  have g4 := u5 (Z3 s.heap b1 b2 l1 l2).objs.size _ (Heap.get?_push_size _ rfl)
  have g3 := u4 (Z2 s.heap b1 b2 l1 l2).objs.size _ (Heap.get?_push_size _ rfl)
  have g2 := u3 (Z1 s.heap b1 l1).objs.size _ (Heap.get?_push_size _ rfl)
  have g1 := u2 s.heap.objs.size _ (Heap.get?_push_size _ rfl)
  show _ ∧ _
  rw [z2, z3, z4] at g5
  rw [z1, z2] at g3
  rw [z3] at g4
  rw [z1] at g2
  rw [z4]
  refine ⟨⟨_, g5, rfl⟩, r _ g5 g3 g4 ?_ ?_ z5 fun c o e => u2 c o (Heap.get?_push_of_some _ e)⟩
  · cases b1 with
    | true => exact ⟨_, g1, rfl, rfl⟩
    | false => exact ⟨_, g1, rfl, rfl⟩
  · cases b2 with
    | true => exact ⟨_, g2, rfl, rfl⟩
    | false => exact ⟨_, g2, rfl, rfl⟩
end
end ZG

/-! OWN RULES 1: a list comprehension of one clause -/
namespace L2
open PySem PySem.Spec PyProof.Rows

/-- the cells that a block takes over, in the order in which they are gathered -/
def cloOf (env : Env) : List (Str × NameKind) → List (Str × Addr) → List (Str × Addr)
  | [], cs => cs
  | x :: r, cs => cloOf env r (if (x.2 == NameKind.free) = true then (x.1, (env.cells.lookup x.1).getD 0) :: cs else cs)
theorem forIn_cl {env : Env} (f : Str × NameKind → List (Str × Addr) → Sem (ForInStep (List (Str × Addr)))) (hf : ∀ n k cs, f (n, k) cs = if (k == NameKind.free) = true then (do let a ← cellOf env n; pure (ForInStep.yield ((n, a) :: cs))) else pure (ForInStep.yield cs)) :
    ∀ (names : List (Str × NameKind)) (cs : List (Str × Addr)), (∀ x ∈ names, x.2 = .free → ∃ c, env.cells.lookup x.1 = some c) → forIn names cs f = pure (cloOf env names cs)
  | [], cs, _ => by rw [List.forIn_nil]; rfl
  | (n, k) :: r, cs, h => by
    rw [List.forIn_cons, hf]
    have hr : ∀ x ∈ r, x.2 = .free → ∃ c, env.cells.lookup x.1 = some c := fun x hx => h x (List.mem_cons_of_mem _ hx)
    by_cases e : (k == NameKind.free) = true
    · obtain ⟨c, hc⟩ := h (n, k) List.mem_cons_self (by simpa using e)
      have hc' : env.cells.lookup n = some c := hc
      rw [if_pos e]
      have q : cellOf env n = pure c := by unfold cellOf; rw [hc']
      rw [q, pure_bind, pure_bind]
      show forIn r ((n, c) :: cs) f = pure (cloOf env ((n, k) :: r) cs)
      rw [forIn_cl f hf r _ hr]
      unfold cloOf
      rw [if_pos e, hc']
      cases r <;> rfl
    · rw [if_neg e, pure_bind]
      show forIn r cs f = pure (cloOf env ((n, k) :: r) cs)
      rw [forIn_cl f hf r _ hr]
      conv => rhs; unfold cloOf
      rw [if_neg e]
theorem closure_eq {sc : Scope} {env : Env} (h : ∀ x ∈ sc.names, x.2 = .free → ∃ c, env.cells.lookup x.1 = some c) : closureFor sc env = pure (cloOf env sc.names []) := by
  unfold closureFor
  show (forIn sc.names [] _ >>= fun cs => pure cs) = _
  rw [forIn_cl (env := env) _ (fun n k cs => by cases e : k == NameKind.free <;> simp [e]) sc.names [] h]
  rfl
theorem clo_some {env : Env} : ∀ {names : List (Str × NameKind)} {cs : List (Str × Addr)} {x : Str} {c : Addr}, (∀ y ∈ names, y.2 = .free → ∃ c, env.cells.lookup y.1 = some c) → (cloOf env names cs).lookup x = some c →
    (env.cells.lookup x = some c ∧ (x, NameKind.free) ∈ names) ∨ cs.lookup x = some c
  | [], cs, x, c, _, h => .inr h
  | (n, k) :: r, cs, x, c, hn, h => by
    unfold cloOf at h
    have hr : ∀ y ∈ r, y.2 = .free → ∃ c, env.cells.lookup y.1 = some c := fun y hy => hn y (List.mem_cons_of_mem _ hy)
    have hh := clo_some hr h
    clear h
    rcases hh with ⟨h1, h2⟩ | h
    · exact .inl ⟨h1, List.mem_cons_of_mem _ h2⟩
    · by_cases e : (k == NameKind.free) = true
      · rw [if_pos e] at h
        obtain ⟨c', hc⟩ := hn (n, k) List.mem_cons_self (by simpa using e)
        have hc' : env.cells.lookup n = some c' := hc
        rw [hc', List.lookup_cons] at h
        by_cases ex : (x == n) = true
        · rw [ex] at h
          have ex' : x = n := by simpa using ex
          have ek : k = NameKind.free := by simpa using e
          subst ex' ek
          have h' : c' = c := Option.some.inj h
          subst h'
          exact .inl ⟨hc', List.mem_cons_self⟩
        · have ex' : (x == n) = false := by simpa using ex
          rw [ex'] at h
          exact .inr h
      · rw [if_neg e] at h
        exact .inr h
theorem clo_keep {env : Env} : ∀ {names : List (Str × NameKind)} {cs : List (Str × Addr)} {x : Str} {c : Addr}, (∀ y ∈ names, y.2 = .free → ∃ c, env.cells.lookup y.1 = some c) → env.cells.lookup x = some c → cs.lookup x = some c → (cloOf env names cs).lookup x = some c
  | [], cs, x, c, _, _, h => h
  | (n, k) :: r, cs, x, c, hn, he, h => by
    unfold cloOf
    refine clo_keep (fun y hy => hn y (List.mem_cons_of_mem _ hy)) he ?_
    by_cases e : (k == NameKind.free) = true
    · rw [if_pos e, List.lookup_cons]
      by_cases ex : (x == n) = true
      · rw [ex]
        have ex' : x = n := by simpa using ex
        subst ex'
        show some ((env.cells.lookup x).getD 0) = some c
        rw [he]; rfl
      · have ex' : (x == n) = false := by simpa using ex
        rw [ex']
        exact h
    · rw [if_neg e]
      exact h
theorem clo_has {env : Env} : ∀ {names : List (Str × NameKind)} {cs : List (Str × Addr)} {x : Str} {c : Addr}, (∀ y ∈ names, y.2 = .free → ∃ c, env.cells.lookup y.1 = some c) → env.cells.lookup x = some c → (x, NameKind.free) ∈ names → (cloOf env names cs).lookup x = some c
  | (n, k) :: r, cs, x, c, hn, he, hm => by
    have hr : ∀ y ∈ r, y.2 = .free → ∃ c, env.cells.lookup y.1 = some c := fun y hy => hn y (List.mem_cons_of_mem _ hy)
    unfold cloOf
    rcases List.mem_cons.mp hm with e | hm
    · obtain ⟨rfl, rfl⟩ := Prod.mk.inj e
      rw [if_pos (by rfl)]
      refine clo_keep hr he ?_
      rw [List.lookup_cons, beq_self_eq_true]
      show some ((env.cells.lookup x).getD 0) = some c
      rw [he]; rfl
    · exact clo_has hr he hm

/-- the block's names, as it runs: a name that the def holds in a cell is a cell here too -/
def relab (env : Env) (sc : Scope) : Scope := { sc with names := sc.names.map fun x => if (x.2 == .free && env.scope.kind == .function && env.kindOf x.1 == some .cell) = true then (x.1, .cell) else (x.1, x.2) }
theorem relab_lookup {f : Str × NameKind → Bool} (x : Str) : ∀ names : List (Str × NameKind), (names.map fun y => if f y = true then (y.1, NameKind.cell) else (y.1, y.2)).lookup x = (names.lookup x).map fun k => if f (x, k) = true then .cell else k
  | [] => rfl
  | (n, k) :: r => by
    rw [List.map_cons]
    by_cases ex : (x == n) = true
    · have ex' : x = n := by simpa using ex
      subst ex'
      cases e : f (x, k) <;> simp [e, List.lookup_cons]
    · have ex' : (x == n) = false := by simpa using ex
      have ih := relab_lookup (f := f) x r
      cases e : f (n, k) <;> simp only [e, if_true, if_false, Bool.false_eq_true, List.lookup_cons, ex', ih]
theorem relab_at (env : Env) (sc : Scope) (x : Str) : (relab env sc).names.lookup x = (sc.names.lookup x).map fun k => if (k == .free && env.scope.kind == .function && env.kindOf x == some .cell) = true then .cell else k :=
  relab_lookup (f := fun y => (y.2 == .free && env.scope.kind == .function && env.kindOf y.1 == some .cell)) x sc.names

/-- the block's environment -/
def compEnv (env : Env) (sc : Scope) (L : Addr) : Env := { newEnv sc L env.globals (cloOf env sc.names []) env.qual none .none (some env) builtinsNs with scope := relab env sc }

section
variable {M : Model} {A : Around} {E : Value → Shared → Prop} {s : Shared} {env : Env}
/-- the comprehension, opened -/
theorem comprehension_ok {e : Expr} {scope : Scope} {pos : Pos} {newAcc first : Sem Value} {g : Comprehension} {gs : List Comprehension} {Q : Value → Shared → Prop}
    (hcl : clausesOf e = g :: gs) (hs : ∀ x, foldedSetIterable g.iter env x = pure x)
    (hc : ∀ x ∈ scope.names, x.2 ≠ .cell) (hfr : ∀ x ∈ scope.names, x.2 = .free → ∃ c, env.cells.lookup x.1 = some c) (hkind : scope.kind = .function) (hnames : ∀ x ∈ scope.names, x.2 = .local → scope.names.lookup x.1 = some .local)
    (h : wpAny M A first (fun x s₁ => wpAny M A (pyIter x) (fun it s₂ => wpAny M A newAcc (fun acc s₃ =>
      ∀ h4, h4.Ns s₃.heap.objs.size (fun _ => none) → (∀ b o, s₃.heap.get? b = some o → h4.get? b = some o) →
        codeAny M A (.compStart e 0 it acc (compEnv env scope s₃.heap.objs.size)) (fun r s' => ∃ m, s'.heap.Ns s₃.heap.objs.size m ∧ ∀ h', Heap.SameBut s₃.heap.objs.size s'.heap h' →
          match r with | .ok _ => Q acc { s' with heap := h' } | .error x => False) { s₃ with heap := h4 }) E s₂) E s₁) E s) :
    wpAny M A (comprehension e scope env pos newAcc false first) Q E s := by
  unfold comprehension
  rw [closure_eq hfr, hcl]
  refine wpAny_bind (wpAny_mono h (fun x s₁ h₁ => wpAny_bind (wpAny_standAt (wpAny_bind (wpAny_of_eq (hs x) (wpAny_bind (wpAny_holding (wpAny_mono h₁ (fun it s₂ h₂ =>
    wpAny_standIf (wpAny_bind (wpAny_mono h₂ (fun acc s₃ h₃ => wpAny_bind (wpAny_pure (wpAny_bind ?_))) fun _ _ h' => h')))
      fun _ _ h' => h'))))))) fun _ _ h' => h')
  refine wpAny_newFunctionEnv hc (fun x hx => nomatch hx) (fun h4 hn4 hs4 => ?_) hkind
  have h₄ := h₃ h4 hn4 fun b o e => hs4.extBut b o (Nat.ne_of_lt (Heap.lt_size e)) (Heap.get?_push_of_some _ e)
  dsimp only
  have hv : ∀ x ∈ (scope.names.filter fun x => (x.2 == .local || x.2 == .cell) && x.1 != (".0" : Str)).reverse, x.2 = .local →
      Env.kindOf (compEnv env scope s₃.heap.objs.size) x.1 = some .local := fun x hx hl => by
    show (relab env scope).names.lookup x.1 = some .local
    rw [relab_at, hnames x (List.mem_filter.mp (List.mem_reverse.mp hx)).1 hl]
    rfl
  refine wpAny_holding (wpAny_bind (wpAny_attempt (wpAny_holding (wpAny_run (codeAny_mono h₄ fun r s' hr => ?_)))))
  obtain ⟨m, hn, hr⟩ := hr
  cases r with
  | ok f => exact wpAny_bind (wpAny_holding (wpAny_comp_letGo (cenv := compEnv env scope s₃.heap.objs.size) hkind _ s' m hv hn fun h' m' _ hs' => wpAny_pure (hr h' hs')))
  | error x => exact (hr s'.heap (.refl ..)).elim
end

section
variable {prog : Program} {w : World} {A : Around} {R : Result → Shared → Prop} {s : Shared}
theorem compLoop_ok {elt target iter : Expr} {ifs : List Expr} {scope : Scope} {pos : Pos} {it acc : Value} {env : Env} (I : Nat → Shared → Prop)
    (turn : ∀ n s, I n s → wpAny (model prog w) A (pyNext it) (fun r s₁ => match r with
      | none => R (.ok .next) s₁
      | some v => wpAny (model prog w) A (letOwnedTupleGo target it v) (fun _ s₁' => wpAny (model prog w) A (assign target env v) (fun _ s₂ =>
          wpAny (model prog w) A (forIn ifs true fun c r => if r = true then do let ok ← isTrue c env (eval c env); pure (ForInStep.yield ok) else pure (ForInStep.yield r)) (fun ok s₃ =>
            if ok = true then wpAny (model prog w) A (eval elt env) (fun x s₄ =>
              wpAny (model prog w) A (call (.builtin "list.append") [acc, x]) (fun _ s₅ => ∃ m, m < n ∧ I m s₅) (fun _ _ => False) s₄) (fun _ _ => False) s₃
            else ∃ m, m < n ∧ I m s₃) (fun _ _ => False) s₂) (fun _ _ => False) s₁') (fun _ _ => False) s₁) (fun _ _ => False) s)
    (n : Nat) (h : I n s) :
    codeAny (model prog w) A (.compLoop (.ListComp elt [⟨target, iter, ifs, 0⟩] scope pos) 0 it acc env) R s := by
  refine codeAny_loop rfl I (fun n s hI => ?_) n h
  show wpAny _ A ((compTurn (.ListComp elt [⟨target, iter, ifs, 0⟩] scope pos) 0 it acc env).onRaise (fun x => do noteFrame x env; theTreesLotGoes x)) _ _ s
  refine wpAny_noted ?_
  rw [compTurn_list]
  refine wpAny_bind (wpAny_standAt (wpAny_bind (wpAny_mono (turn n s hI) (fun r s₁ h₁ => ?_) fun _ _ h' => h'.elim)))
  cases r with
  | none => exact wpAny_pure h₁
  | some v =>
    refine wpAny_bind (wpAny_mono h₁ (fun _ s₁' h₁' => ?_) fun _ _ h' => h'.elim)
    refine wpAny_bind (wpAny_mono h₁' (fun _ s₂ h₂ => wpAny_bind (wpAny_mono h₂ (fun ok s₃ h₃ => ?_) fun _ _ h' => h'.elim)) fun _ _ h' => h'.elim)
    cases ok with
    | false => exact wpAny_pure ⟨rfl, h₃⟩
    | true =>
      exact wpAny_bind (wpAny_bind (wpAny_mono h₃ (fun x s₄ h₄ => wpAny_bind (wpAny_mono h₄ (fun _ s₅ h₅ => wpAny_pure (wpAny_pure ⟨rfl, h₅⟩)) fun _ _ h' => h'.elim)) fun _ _ h' => h'.elim))
end

/-! ### the block's context -/
def cxComp (X : Cx) (N' : List Str) (sc : Scope) (s3 : Shared) (H3 : Hp) (fp : List Addr) : Cx where
  prog := X.prog
  w := X.w
  K := X.K
  mg := X.mg
  base := X.base
  A := X.A
  N := N'
  s₀ := s3
  H₀ := H3
  env := compEnv X.env sc s3.heap.objs.size
  outer := X.stack
  stack := X.stack
  ex := fp
  calm := true
  fn := fun _ => false
  pn := []
  xe := fun _ _ => False
/-- the tables fit: the def's names N and table, the block's table; N' the block's names, fr: where in N a name of N' that is taken over stands -/
def compOk (N : List Str) (esc sc : Scope) (N' : List Str) (fr : List (Option Nat)) : Bool :=
  sc.kind == .function && esc.kind == .function
  && sc.names.all (fun y => (y.2 != .cell) && (y.2 != .free || esc.names.lookup y.1 == some .cell) && (y.2 != .local || sc.names.lookup y.1 == some .local))
  && fr.length == N'.length
  && (List.range N'.length).all (fun i => match fr[i]? with
    | some (some j) => match N'[i]? with
      | some x => N[j]? == some x && sc.names.lookup x == some .free
      | none => false
    | _ => true)
structure CompOk (N : List Str) (esc sc : Scope) (N' : List Str) (fr : List (Option Nat)) : Prop where
  kind : sc.kind = .function
  ekind : esc.kind = .function
  nocell : ∀ x ∈ sc.names, x.2 ≠ .cell
  free : ∀ x ∈ sc.names, x.2 = .free → esc.names.lookup x.1 = some .cell
  names : ∀ x ∈ sc.names, x.2 = .local → sc.names.lookup x.1 = some .local
  len : fr.length = N'.length
  at_ : ∀ (i j : Nat) (x : Str), fr[i]? = some (some j) → N'[i]? = some x → N[j]? = some x ∧ sc.names.lookup x = some .free
theorem compOk_of {N : List Str} {esc sc : Scope} {N' : List Str} {fr : List (Option Nat)} (h : compOk N esc sc N' fr = true) : CompOk N esc sc N' fr := by
  unfold compOk at h
  simp only [Bool.and_eq_true, beq_iff_eq, List.all_eq_true, List.mem_range] at h
  obtain ⟨⟨⟨⟨h1, h2⟩, h3⟩, h4⟩, h5⟩ := h
  refine ⟨h1, h2, fun x hx => ?_, fun x hx e => ?_, fun x hx e => ?_, h4, fun i j x e1 e2 => ?_⟩
  · have := (h3 x hx).1.1
    simpa using this
  · have := (h3 x hx).1.2
    rw [e] at this
    simpa using this
  · have := (h3 x hx).2
    rw [e] at this
    simpa using this
  · have hi : i < N'.length := (List.getElem?_eq_some_iff.mp e2).1
    have q := h5 i hi
    rw [e1, e2] at q
    simpa using q

/-- the block's first state -/
def compSt (fr : List (Option Nat)) (σ : St) : St := fr.map fun o => match o with
  | some j => (σ[j]?).join
  | none => none

theorem comp_inv {X : Cx} {pins : List (Addr × Obj)} {σ : St} {H3 : Hp} {s3 : Shared} {sc : Scope} {N' : List Str} {fr : List (Option Nat)} {fp : List Addr} {h4 : Heap} (I : Inv X pins σ H3 s3) (C : CompOk X.N X.env.scope sc N' fr) (hc : X.calm = true)
    (hfp : ∀ b ∈ fp, FpOk X pins H3 b) (hfo : ∀ b ∈ fp, ∃ o, s3.heap.get? b = some o) (hn : h4.Ns s3.heap.objs.size (fun _ => none)) (hk : ∀ b o, s3.heap.get? b = some o → h4.get? b = some o) :
    Inv (cxComp X N' sc s3 H3 fp) [] (compSt fr σ) H3 { s3 with heap := h4 } := by
  have hfr : ∀ x ∈ sc.names, x.2 = .free → ∃ c, X.env.cells.lookup x.1 = some c := fun x hx e => I.ok.has x.1 (.inl (C.free x hx e))
  have clo : ∀ {x c}, (cloOf X.env sc.names []).lookup x = some c → X.env.cells.lookup x = some c := fun {x c} e => by
    rcases clo_some hfr e with ⟨h1, _⟩ | h
    · exact h1
    · cases h
  have nfs : ∀ b ∈ fp, b ∉ frs X.stack := fun b hb z => by
    obtain ⟨_, h1, h2, _⟩ := hfp b hb
    rcases List.mem_cons.mp (I.stkSub b z) with e | e
    · exact h1 e
    · exact h2 e
  have hfresh : H3 s3.heap.objs.size = none := I.hok.fresh (Nat.le_refl _)
  refine ⟨⟨I.ok.mod, C.kind, I.ok.glob, I.ok.blt, Nat.le_refl _, fun x y c e1 e2 => I.ok.inj x y c (clo e1) (clo e2), fun x hx => ?_, fun x c z => (nomatch z), fun _ => I.ok.hd hc, I.ok.frames, .inl rfl, fun b hb => ⟨?_, fun x c e => ?_⟩, fun b o e => I.bs b o e, Nat.le_trans I.ok.bsz I.sz, fun b o e hb => ?_, nfs, I.stack, I.stkFree⟩,
    rfl, I.bare, Un.kept hk, ⟨_, hn, fun i x v e1 e2 e3 => ?_⟩, fun x c e => ?_, hfresh, fun x c e => I.freeC x c (clo e), fun p hp => (nomatch hp), I.hok.kept hk, ?_⟩
  · have hx : (relab X.env sc).names.lookup x = some .cell ∨ (relab X.env sc).names.lookup x = some .free := hx
    rw [relab_at] at hx
    cases e : sc.names.lookup x with
    | none => rw [e] at hx; rcases hx with z | z <;> cases z
    | some k =>
      have hm : (x, k) ∈ sc.names := PySem.mem_of_lookup e
      have hk : k = .free := by
        rw [e] at hx
        cases k with
        | free => rfl
        | cell => exact absurd rfl (C.nocell _ hm)
        | _ => rcases hx with z | z <;> (simp at z)
      subst hk
      obtain ⟨c, hc'⟩ := hfr _ hm rfl
      exact ⟨c, clo_has hfr hc' hm⟩
  · obtain ⟨o, ho⟩ := hfo b hb
    exact Nat.ne_of_lt (Heap.lt_size ho)
  · exact (hfp b hb).2.2.2.2.1 x c (clo e)
  · obtain ⟨e1, _⟩ := I.ok.bs b o e
    rcases (hfp b hb).2.2.2.1 with z | z
    · exact I.ok.noex b o e z
    · exact absurd (Nat.lt_of_lt_of_le (Heap.lt_size e1) z) (Nat.lt_irrefl _)
  · have e2 : (compSt fr σ)[i]? = some (some v) := e2
    unfold compSt at e2
    rw [List.getElem?_map] at e2
    cases ef : fr[i]? with
    | none => rw [ef] at e2; cases e2
    | some o =>
      rw [ef] at e2
      cases o with
      | none => cases e2
      | some j =>
        have e2' : (σ[j]?).join = some v := by simpa using e2
        have e2'' : σ[j]? = some (some v) := by
          cases q : σ[j]? with
          | none => rw [q] at e2'; cases e2'
          | some z => rw [q] at e2'; exact congrArg some e2'
        obtain ⟨hN, hfrx⟩ := C.at_ i j x ef e1
        have hm : (x, NameKind.free) ∈ sc.names := PySem.mem_of_lookup hfrx
        have hcell := C.free _ hm rfl
        obtain ⟨m, _, hl⟩ := I.loc
        obtain ⟨u, r, l⟩ := hl j x v hN e2'' (.inr (.inl hcell))
        refine ⟨u, r, .inr ⟨.inl ?_, ?_⟩⟩
        · show (relab X.env sc).names.lookup x = some .cell
          rw [relab_at, hfrx]
          have h1 : X.env.kindOf x = some .cell := hcell
          have h2 : X.env.scope.kind = .function := C.ekind
          simp [h1, h2]
        · rcases l with ⟨k, _⟩ | ⟨_, c, ec, ic⟩
          · have h1 : X.env.kindOf x = some .cell := hcell
            rw [h1] at k; cases k
          · obtain ⟨o, ho, hd⟩ := ic
            exact ⟨c, clo_has hfr ec hm, o, hk c o ho, hd⟩
  · obtain ⟨v, o, ho, hd⟩ := I.cell x c (clo e)
    exact ⟨v, o, hk c o ho, hd⟩
  · unfold compSt
    rw [List.length_map]
    exact C.len

def PTs (X : Cx) (ifs : List Expr) (t : TT) : Prop :=
  ∀ (pins : List (Addr × Obj)) (s : Shared) (σ : St) (H : Hp) (Q : Bool → Hp → Prop), Inv X pins σ H s → t σ H Q →
    wpAny (model X.prog X.w) X.A (forIn ifs true fun c r => if r = true then do let ok ← isTrue c X.env (eval c X.env); pure (ForInStep.yield ok) else pure (ForInStep.yield r)) (TP X pins σ Q) X.xe s
def tYes : TT := fun _ H Q => Q true H
theorem pts_nil {X : Cx} : PTs X [] tYes := fun pins s σ H Q I h => wpAny_tests_nil ⟨H, I, h⟩
theorem pts_one {X : Cx} {c : Expr} {t : TT} (h : PT X c t) : PTs X [c] t := fun pins s σ H Q I q => wpAny_tests_one (h pins s σ H Q I q)

/-- W: the invariant by the turn, a measure, the block's names; p: the new list -/
def CompB (J : It) (fr : List (Option Nat)) (g : Shared → Hp → List Addr → TG) (tt : Shared → Hp → List Addr → TT) (te : Shared → Hp → List Addr → TE) (σ : St) (H1 : Hp) (Q : VK) : Prop := ∀ p, H1 p = none → ∀ s3 H3' fp, ∃ W : Nat → Nat → St → Hp → Prop, (∃ m, W 0 m (compSt fr σ) (upd H1 p (.lst []))) ∧ ∀ i m σ' H', W i m σ' H' →
  (J.stop i H' ∧ Q (.ref p) H') ∨ (J.go i H' ∧ ∀ x H2, J.yld i H' x H2 → g s3 H3' fp x σ' H2 fun σ2 H3 => tt s3 H3' fp σ2 H3 fun b H4 =>
    if b = true then te s3 H3' fp σ2 H4 fun v H5 => ∃ ys, H5 p = some (.lst ys) ∧ ys.length < sizeLine ∧ ∃ m', m' < m ∧ W (i + 1) m' σ2 (upd H5 p (.lst (ys ++ [v]))) else ∃ m', m' < m ∧ W (i + 1) m' σ2 H4)
def tComp (wi : TI) (fr : List (Option Nat)) (g : Shared → Hp → List Addr → TG) (tt : Shared → Hp → List Addr → TT) (te : Shared → Hp → List Addr → TE) : TE := fun σ H Q => wi σ H fun J H1 => CompB J fr g tt te σ H1 Q

theorem pe_comp {X : Cx} (N' : List Str) (fr : List (Option Nat)) {elt target iter : Expr} {ifs : List Expr} {sc : Scope} {pos : Pos} {wi : TI} {g : Shared → Hp → List Addr → TG} {tt : Shared → Hp → List Addr → TT} {te : Shared → Hp → List Addr → TE} (hc : X.calm = true) (C : compOk X.N X.env.scope sc N' fr = true)
    (hi : PI X target iter wi) (hg : ∀ s3 H3 fp, PG (cxComp X N' sc s3 H3 fp) target (g s3 H3 fp)) (ht : ∀ s3 H3 fp, PTs (cxComp X N' sc s3 H3 fp) ifs (tt s3 H3 fp)) (he : ∀ s3 H3 fp, PE (cxComp X N' sc s3 H3 fp) elt (te s3 H3 fp))
    (hs : ∀ x, foldedSetIterable iter X.env x = pure x := by intro _; rfl) : PE X (.ListComp elt [⟨target, iter, ifs, 0⟩] sc pos) (tComp wi fr g tt te) := by
  have C := compOk_of C
  intro pins s σ H Q I h
  rw [eval_ListComp]
  have hfr : ∀ x ∈ sc.names, x.2 = .free → ∃ c, X.env.cells.lookup x.1 = some c := fun x hx e => I.ok.has x.1 (.inl (C.free x hx e))
  refine comprehension_ok (g := ⟨target, iter, ifs, 0⟩) (gs := []) rfl hs C.nocell hfr C.kind C.names ?_
  show wpAny _ _ (eval iter X.env) _ _ s
  refine thn (hi pins s σ H _ I h) fun v s1 h1 => thn h1 fun itv s2 h2 => ?_
  obtain ⟨it, fp, tn, J, H2, e, I2, T, st2, f2, k2⟩ := h2
  subst e
  refine wpAny_newList ?_ (by show 0 ≤ sizeLine; decide)
  have hf : H2 s2.heap.objs.size = none := I2.hok.fresh (Nat.le_refl _)
  obtain ⟨W, ⟨m0, w0⟩, turn⟩ := k2 _ hf { s2 with heap := s2.heap.push { cls := .type "list", data := .seq ([] : List Value).toArray } } (upd H2 s2.heap.objs.size (.lst [])) fp
  have kp : ∀ b u, s2.heap.get? b = some u → (s2.heap.push { cls := .type "list", data := .seq ([] : List Value).toArray }).get? b = some u := fun b u e => Heap.get?_push_of_some _ e
  have I3 : Inv X pins σ (upd H2 s2.heap.objs.size (.lst [])) { s2 with heap := s2.heap.push { cls := .type "list", data := .seq ([] : List Value).toArray } } :=
    I2.laid (t' := s2.toks) kp (Nat.le_refl _) ⟨Nat.zero_le _, [], 0, .nil, Heap.get?_push_size _ rfl⟩
  have obj2 := T.obj 0 s2.heap st2
  have fpne : ∀ b ∈ fp, b ≠ s2.heap.objs.size := fun b hb => by
    obtain ⟨o, ho, _⟩ := obj2 b hb
    exact Nat.ne_of_lt (Heap.lt_size ho)
  have f3 : ∀ b ∈ fp, FpOk X pins (upd H2 s2.heap.objs.size (.lst [])) b := fun b hb => ⟨by rw [upd_ne (fpne b hb)]; exact (f2 b hb).1, (f2 b hb).2⟩
  have st3 := T.keep 0 s2.heap _ st2 fun b hb o e => kp b o e
  have obj3 := T.obj 0 _ st3
  intro h4 hn4 hk4
  have st4 := T.keep 0 _ h4 st3 fun b hb o e => hk4 b o e
  have I4 := comp_inv (N' := N') (fr := fr) (fp := fp) I3 C hc f3 (fun b hb => let ⟨o, ho, _⟩ := obj3 b hb; ⟨o, ho⟩) hn4 hk4
  -- the iterator's records, in the block
  have stat : ∀ {H' : Hp}, (∀ b ∈ fp, H' b = none) → ∀ b ∈ fp, FpOk (cxComp X N' sc { s2 with heap := s2.heap.push { cls := .type "list", data := .seq ([] : List Value).toArray } } (upd H2 s2.heap.objs.size (.lst [])) fp) [] H' b := fun hn b hb =>
    ⟨hn b hb, (I4.ok.exf b hb).1, I4.ok.exfs b hb, .inl hb, (I4.ok.exf b hb).2, fun p hp => (nomatch hp)⟩
  have loop : codeAny (model X.prog X.w) X.A (.compLoop (.ListComp elt [⟨target, iter, ifs, 0⟩] sc pos) 0 (.ref it) (.ref s2.heap.objs.size) (compEnv X.env sc (s2.heap.push { cls := .type "list", data := .seq ([] : List Value).toArray }).objs.size))
      (fun r s' => ∃ m, s'.heap.Ns (s2.heap.push { cls := .type "list", data := .seq ([] : List Value).toArray }).objs.size m ∧ ∀ h', Heap.SameBut (s2.heap.push { cls := .type "list", data := .seq ([] : List Value).toArray }).objs.size s'.heap h' →
        match r with | .ok _ => EP X pins σ Q (.ref s2.heap.objs.size) { s' with heap := h' } | .error x => False) { s2 with heap := h4 } := by
    refine compLoop_ok (fun n s' => ∃ i σ' H', Inv (cxComp X N' sc { s2 with heap := s2.heap.push { cls := .type "list", data := .seq ([] : List Value).toArray } } (upd H2 s2.heap.objs.size (.lst [])) fp) [] σ' H' s' ∧ tn i s'.heap ∧ (∀ b ∈ fp, H' b = none) ∧ W i n σ' H') ?_ m0
      ⟨0, _, _, I4, st4, fun b hb => (f3 b hb).1, w0⟩
    rintro n s5 ⟨i, σ5, H5, I5, st5, fr5, w5⟩
    rcases turn i n σ5 H5 w5 with ⟨stop, q⟩ | ⟨go, step⟩
    · refine thn (T.done (cxComp X N' sc _ _ fp) rfl rfl rfl rfl i [] s5 σ5 H5 (fun _ _ => False) I5 (stat fr5) st5 stop) fun r s6 ⟨hr, I6⟩ => ?_
      subst hr
      obtain ⟨m6, hn6, _⟩ := id I6.loc
      refine ⟨m6, hn6, fun h' hs' => ?_⟩
      have hL : H5 (s2.heap.push { cls := .type "list", data := .seq ([] : List Value).toArray }).objs.size = none := I6.free
      have hok' : HOk X.prog X.w H5 h' := fun b u e => by
        refine (I6.hok b u e).stay (fun c v hc q => (hs'.2 c ?_).trans q) (fun _ q => q) fun _ _ q => q
        rintro rfl
        rcases hc with rfl | hc
        · rw [hL] at e; cases e
        · rw [hL] at hc; cases hc
      have ub := I6.base
      have lt : ∀ b o, (s2.heap.push { cls := .type "list", data := .seq ([] : List Value).toArray }).get? b = some o → b ≠ (s2.heap.push { cls := .type "list", data := .seq ([] : List Value).toArray }).objs.size := fun b o e => Nat.ne_of_lt (Heap.lt_size e)
      have un : Un (frs X.stack) fp (upd H2 s2.heap.objs.size (.lst [])) H5 (s2.heap.push { cls := .type "list", data := .seq ([] : List Value).toArray }) h' :=
        ⟨fun b o e n hb hx => (hs'.2 b (lt b o e)).trans (ub.keep b o e n hb hx), fun b o e n hb hx => let ⟨sl, z⟩ := ub.slot b o e n hb hx; ⟨sl, (hs'.2 b (lt b o e)).trans z⟩, ub.free,
          fun b o e hx => let ⟨o', z⟩ := ub.there b o e hx; ⟨o', (hs'.2 b (lt b o e)).trans z⟩, ub.tups, ub.frzs, ub.tbls⟩
      refine ⟨.ref s2.heap.objs.size, H5, I3.call' (s' := { s6 with heap := h' }) (ch := fp) I6.os un hok' I6.bare (fun b hb => ?_), rfl, q⟩
      obtain ⟨_, g1, g2, g3, g4, g5⟩ := f3 b hb
      exact ⟨g3, g1, g4, g5⟩
    · refine thn (T.item (cxComp X N' sc _ _ fp) rfl rfl rfl rfl i [] s5 σ5 H5 (fun _ _ => False) I5 (stat fr5) st5 go) fun r s6 ⟨u, hr, h6⟩ => ?_
      subst hr
      refine thn h6 fun _ s7 ⟨x, H7, I7, r7, y7, st7, fr7⟩ => ?_
      have I7' := I7.pinned (stat fr7) (T.obj _ _ st7)
      have again : ∀ {σ8 : St} {H8 : Hp} {s8 : Shared}, Inv (cxComp X N' sc { s2 with heap := s2.heap.push { cls := .type "list", data := .seq ([] : List Value).toArray } } (upd H2 s2.heap.objs.size (.lst [])) fp) ([] ++ pinsAt fp s7.heap) σ8 H8 s8 → (∃ m', m' < n ∧ W (i + 1) m' σ8 H8) →
          ∃ m, m < n ∧ ∃ i σ' H', Inv (cxComp X N' sc { s2 with heap := s2.heap.push { cls := .type "list", data := .seq ([] : List Value).toArray } } (upd H2 s2.heap.objs.size (.lst [])) fp) [] σ' H' s8 ∧ tn i s8.heap ∧ (∀ b ∈ fp, H' b = none) ∧ W i m σ' H' := fun {σ8 H8 s8} I8 ⟨m', hm, w8⟩ => by
        refine ⟨m', hm, i + 1, σ8, H8, I8.unpinned, T.keep _ _ _ st7 fun b hb o e => (I8.pin (b, o) (List.mem_append_right _ (List.mem_append_right _ (mem_pinsAt hb e)))).1, fun b hb => ?_, w8⟩
        obtain ⟨o, e, d⟩ := T.obj _ _ st7 b hb
        exact (I8.pin (b, o) (List.mem_append_right _ (List.mem_append_right _ (mem_pinsAt hb e)))).2.1
      refine thn (hg _ _ fp _ s7 σ5 H7 x u _ I7' r7 (step x H7 y7)) fun _ s8 ⟨σ8, H8, I8, q8⟩ => ?_
      refine thn (ht _ _ fp _ s8 σ8 H8 _ I8 q8) fun ok s9 ⟨H9, I9, q9⟩ => ?_
      cases ok with
      | false => exact again I9 q9
      | true =>
        refine thn (he _ _ fp _ s9 σ8 H9 _ I9 q9) fun y s10 ⟨v, H10, I10, r10, ys, hys, hl, q10⟩ => ?_
        refine thn (mt_append _ s10 σ8 H10 (.ref s2.heap.objs.size) [v] (.ref s2.heap.objs.size) [y] (fun _ H' => ∃ m', m' < n ∧ W (i + 1) m' σ8 H') I10 rfl (.cons r10 .nil) ⟨_, ys, v, rfl, rfl, hys, hl, q10⟩) fun z s11 ⟨_, H11, I11, _, q11⟩ => ?_
        exact again I11 q11
  refine codeAny_compStart_list loop ?_
  exact T.self X.A 0 _ _ _ st4 loop
end L2

/-! OWN RULES 2: zip as a loop's iterable; all, any, isinstance -/
namespace L2
open PySem PySem.Spec PyProof.Rows

/-- a sequence that is read: kind true a tuple, false a list -/
def SqG (b : Bool) (K : PySem.W.Frag) (H : Hp) (a : Addr) (xs : List V) : Prop := match b with
  | true => SqT K H a xs
  | false => SqL K H a xs
section
variable {X : Cx} {pins : List (Addr × Obj)} {σ : St} {H : Hp} {s : Shared}
theorem Inv.sq (I : Inv X pins σ H s) {b : Bool} {a : Addr} {xs : List V} (h : SqG b X.K H a xs) : ∃ its : List Value, Vals xs its ∧ ZG.Sq b s.heap a its.toArray ∧ xs.length ≤ sizeLine := by
  cases b with
  | true => exact I.tuple h
  | false =>
    obtain ⟨its, r, p, z⟩ := I.list h
    exact ⟨its, r, p.isList, z⟩
theorem Inv.sq_inj (I : Inv X pins σ H s) {b : Bool} {a : Addr} {xs ys : List V} (h : SqG b X.K H a xs) (h' : SqG b X.K H a ys) : xs = ys := by
  cases b with
  | true => exact I.tuple_inj h h'
  | false => exact I.list_inj h h'
theorem Inv.rd_ne (I : Inv X pins σ H s) {a b : Addr} {u : HO} (h : Rd H a u) (f : FpOk X pins H b) : a ≠ b := by
  rintro rfl
  rcases h with h | ⟨o, h⟩
  · rw [f.1] at h; cases h
  · rw [f.1] at h; cases h
theorem Inv.k_ne (I : Inv X pins σ H s) {a b : Addr} {o : Obj} (h : X.K.lookup a = some o) (f : FpOk X pins H b) : a ≠ b := by
  rintro rfl
  have e : X.base.get? a = some o := I.ok.mod.kin a o h
  rcases f.2.2.2.1 with z | z
  · exact I.ok.noex a o e z
  · exact absurd (Nat.lt_of_lt_of_le (Heap.lt_size (I.ok.bs a o e).1) z) (Nat.lt_irrefl _)
theorem Inv.sq_ne (I : Inv X pins σ H s) {b : Bool} {a c : Addr} {xs : List V} (h : SqG b X.K H a xs) (f : FpOk X pins H c) : a ≠ c := by
  cases b with
  | true =>
    rcases h with h | ⟨o, its, n, hk, _⟩
    · exact I.rd_ne h f
    · exact I.k_ne hk f
  | false =>
    rcases h with h | ⟨o, its, n, hk, _⟩
    · exact I.rd_ne h f
    · exact I.k_ne hk f
end

/-- two sequences, pair by pair: each turn yields a new tuple -/
def Itz (K : PySem.W.Frag) (b1 : Bool) (a1 : Addr) (b2 : Bool) (a2 : Addr) : It :=
  ⟨fun i H => ∃ xs ys x y, SqG b1 K H a1 xs ∧ SqG b2 K H a2 ys ∧ xs[i]? = some x ∧ ys[i]? = some y,
   fun i H v H' => ∃ p x y, H p = none ∧ v = .ref p ∧ H' = upd H p (.tup [x, y]) ∧ (∀ xs, SqG b1 K H a1 xs → xs[i]? = some x) ∧ ∀ ys, SqG b2 K H a2 ys → ys[i]? = some y,
   fun i H => ∃ xs ys, SqG b1 K H a1 xs ∧ SqG b2 K H a2 ys ∧ (xs.length ≤ i ∨ ys.length ≤ i)⟩
/-- the five records of a zip stand apart -/
structure Off5 (z TI TO i1 i2 : Addr) : Prop where
  a1 : TI ≠ z
  a2 : TO ≠ z
  a3 : i1 ≠ z
  a4 : i2 ≠ z
  a5 : TI ≠ TO
  a6 : TI ≠ i1
  a7 : TI ≠ i2
  a8 : TO ≠ i1
  a9 : TO ≠ i2
  b1 : i1 ≠ i2
theorem turn_zip {P : Program} {w : World} {K : PySem.W.Frag} {es : List Expr} {x1 : Nat} {tp : Pos} (b1 : Bool) (a1 : Addr) (b2 : Bool) (a2 z TI TO i1 i2 : Addr) (D : Off5 z TI TO i1 i2) :
    Turn P w K (.Tuple es x1 tp) (Itz K b1 a1 b2 a2) [z, TI, TO, i1, i2] z (fun i h => IsZip h z TI TO .none ∧ IsPair h TI (.ref i1) (.ref i2) ∧ (∃ a b, IsPair h TO a b) ∧ ZG.Dr b1 h i1 a1 i ∧ ZG.Dr b2 h i2 a2 i) where
  mem := by simp
  obj := fun i h st b hb => by
    obtain ⟨hz, hi, ⟨a, c, ho⟩, d1, d2⟩ := st
    have hb : b = z ∨ b = TI ∨ b = TO ∨ b = i1 ∨ b = i2 := by simpa using hb
    rcases hb with rfl | rfl | rfl | rfl | rfl
    · exact ⟨_, hz, fun v e => by cases (show Data.fields _ = Data.cell v from e)⟩
    · exact ⟨_, hi, fun v e => by cases (show Data.seq _ _ = Data.cell v from e)⟩
    · exact ⟨_, ho, fun v e => by cases (show Data.seq _ _ = Data.cell v from e)⟩
    · exact d1.some
    · exact d2.some
  keep := fun i h h' st k => by
    obtain ⟨hz, hi, ⟨a, c, ho⟩, d1, d2⟩ := st
    exact ⟨k z (by simp) _ hz, k TI (by simp) _ hi, ⟨a, c, k TO (by simp) _ ho⟩, d1.at fun o e => k i1 (by simp) o e, d2.at fun o e => k i2 (by simp) o e⟩
  item := by
    intro X hP hw hK hc i pins s σ H E I hf st hg
    subst hP hw hK
    obtain ⟨xs, ys, x, y, q1, q2, hx, hy⟩ := hg
    obtain ⟨its, rv, p1, z1⟩ := I.sq q1
    obtain ⟨jts, sv, p2, z2⟩ := I.sq q2
    obtain ⟨u, hu, ru⟩ := rv.get hx
    obtain ⟨v, hv, rw'⟩ := sv.get hy
    obtain ⟨hz, hi, ⟨a, c, ho⟩, d1, d2⟩ := st
    have fz := hf z (by simp)
    have fTI := hf TI (by simp)
    have fTO := hf TO (by simp)
    have f1 := hf i1 (by simp)
    have f2 := hf i2 (by simp)
    have DD : ZG.Off z TI TO i1 i2 a1 a2 := ⟨D.a1, D.a2, D.a3, D.a4, D.a5, D.a6, D.a7, D.a8, D.a9, D.b1, I.sq_ne q1 fz, I.sq_ne q1 fTO, I.sq_ne q1 f1, I.sq_ne q1 f2, I.sq_ne q2 fz, I.sq_ne q2 fTO, I.sq_ne q2 f1, I.sq_ne q2 f2⟩
    refine ZG.pyNext_item DD hz hi ho d1 d2 p1 p2 (by simpa using hu) (by simpa using hv) fun g gz gO g1 g2 gT gs gk => ⟨_, rfl, ?_⟩
    refine wpAny_letOwnedTupleGo_zip (s := { s with heap := g }) gz fun h' hz' hs' => ?_
    have hfresh : H s.heap.objs.size = none := I.hok.fresh (Nat.le_refl _)
    have zT : s.heap.objs.size ≠ z := Nat.ne_of_gt (Heap.lt_size hz)
    have kp : ∀ b o, b ∉ [z, TI, TO, i1, i2] → s.heap.get? b = some o → h'.get? b = some o := fun b o hb e => by
      have n : b ≠ z ∧ b ≠ TI ∧ b ≠ TO ∧ b ≠ i1 ∧ b ≠ i2 := by simpa using hb
      exact hs'.extBut _ _ n.1 (gk b o n.1 n.2.2.1 n.2.2.2.1 n.2.2.2.2 e)
    have hT : h'.get? s.heap.objs.size = some { cls := .type "tuple", data := .seq #[u, v] } := hs'.extBut _ _ zT gT
    have notfp : ∀ b o, H b = some o → b ∉ [z, TI, TO, i1, i2] := fun b o e hb => by
      have := (hf b hb).1
      rw [e] at this; cases this
    have ne : ∀ b o, s.heap.get? b = some o → b ≠ s.heap.objs.size := fun b o e => Nat.ne_of_lt (Heap.lt_size e)
    have nt : ∀ b o, H b = some o → b ≠ s.heap.objs.size := fun b o e => ne_of_none e hfresh
    have I1 : Inv X pins σ (upd H s.heap.objs.size (.tup [x, y])) { s with heap := h' } := by
      refine I.step (g' := s.gens) (d' := s.drawn) (t' := s.toks) (ch := [z, TI, TO, i1, i2]) (fun b hb => ?_) (fun b o _ _ hc e _ => kp b o hc e) (fun b o _ _ hc e _ => ⟨o.slots, kp b o hc e⟩)
        (fun b o _ e n => by rw [upd_ne (ne b o e)]; exact n) (fun b o hc e => ⟨o, kp b o hc e⟩) (fun b zs e => by rw [upd_ne (nt b _ e)]; exact e) (fun b o u e => by rw [upd_ne (nt b _ e)]; exact e)
        (fun b ps e => ⟨#[], by rw [upd_ne (nt b _ e), e]; simp⟩) (fun m hm => ?_) (fun b o e => ?_) I.bare
      · obtain ⟨g0, g1, g2, g3, g4, g5⟩ := hf b hb
        exact ⟨g3, g1, g4, g5⟩
      · obtain ⟨o, es, ep, ho', r⟩ := hm
        exact ⟨o, es, ep, kp _ o (fun hb => (hf _ hb).2.1 rfl) ho', r⟩
      · by_cases hb : b = s.heap.objs.size
        · subst hb
          rw [upd_same] at e
          cases e
          exact ⟨by show 2 ≤ sizeLine; decide, [u, v], .cons ru (.cons rw' .nil), _, hT, rfl, _, rfl⟩
        · rw [upd_ne hb] at e
          refine (I.hok b o e).stay (fun c' w' hc' q => kp c' w' ?_ q) (fun c' q => by rw [upd_ne (nt c' _ q)]; exact q) fun c' zs q => by rw [upd_ne (nt c' _ q)]; exact q
          rcases hc' with rfl | hc'
          · exact notfp _ _ e
          · exact notfp _ _ hc'
    refine ⟨.ref s.heap.objs.size, _, I1, rfl, ⟨s.heap.objs.size, x, y, hfresh, rfl, rfl, fun zs hq => by rw [I.sq_inj hq q1]; exact hx, fun zs hq => by rw [I.sq_inj hq q2]; exact hy⟩, ?_, fun b hb => ?_⟩
    · exact ⟨hz', hs'.extBut _ _ D.a1 (gk _ _ D.a1 D.a5 D.a6 D.a7 hi), ⟨_, _, hs'.extBut _ _ D.a2 gO⟩, g1.ext hs'.extBut D.a3, g2.ext hs'.extBut D.a4⟩
    · have hb0 := (hf b hb).1
      have hb' : b = z ∨ b = TI ∨ b = TO ∨ b = i1 ∨ b = i2 := by simpa using hb
      have hlt : ∃ o, s.heap.get? b = some o := by
        rcases hb' with rfl | rfl | rfl | rfl | rfl
        · exact ⟨_, hz⟩
        · exact ⟨_, hi⟩
        · exact ⟨_, ho⟩
        · obtain ⟨o, e, _⟩ := d1.some; exact ⟨o, e⟩
        · obtain ⟨o, e, _⟩ := d2.some; exact ⟨o, e⟩
      obtain ⟨o, e⟩ := hlt
      rw [upd_ne (ne b o e)]
      exact hb0
  done := by
    intro X hP hw hK hc i pins s σ H E I hf st hg
    subst hP hw hK
    obtain ⟨xs, ys, q1, q2, hn⟩ := hg
    obtain ⟨its, rv, p1, z1⟩ := I.sq q1
    obtain ⟨jts, sv, p2, z2⟩ := I.sq q2
    obtain ⟨hz, hi, ⟨a, c, ho⟩, d1, d2⟩ := st
    have fz := hf z (by simp)
    have fTI := hf TI (by simp)
    have fTO := hf TO (by simp)
    have f1 := hf i1 (by simp)
    have f2 := hf i2 (by simp)
    have DD : ZG.Off z TI TO i1 i2 a1 a2 := ⟨D.a1, D.a2, D.a3, D.a4, D.a5, D.a6, D.a7, D.a8, D.a9, D.b1, I.sq_ne q1 fz, I.sq_ne q1 fTO, I.sq_ne q1 f1, I.sq_ne q1 f2, I.sq_ne q2 fz, I.sq_ne q2 fTO, I.sq_ne q2 f1, I.sq_ne q2 f2⟩
    have l1 := rv.length
    have l2 := sv.length
    refine ZG.pyNext_end (I.ok.hd hc) DD hz hi ho d1 d2 p1 p2 (hn.elim (fun z => .inl (by simp; omega)) fun z => .inr (by simp; omega)) fun g gk => ⟨rfl, ?_⟩
    have kp : ∀ b o, b ∉ [z, TI, TO, i1, i2] → s.heap.get? b = some o → g.get? b = some o := fun b o hb e => by
      have n : b ≠ z ∧ b ≠ TI ∧ b ≠ TO ∧ b ≠ i1 ∧ b ≠ i2 := by simpa using hb
      exact gk b o n.1 n.2.2.1 n.2.2.2.1 n.2.2.2.2 e
    have notfp : ∀ b o, H b = some o → b ∉ [z, TI, TO, i1, i2] := fun b o e hb => by
      have := (hf b hb).1
      rw [e] at this; cases this
    refine I.step (g' := s.gens) (d' := s.drawn) (t' := s.toks) (ch := [z, TI, TO, i1, i2]) (fun b hb => ?_) (fun b o _ _ hc e _ => kp b o hc e) (fun b o _ _ hc e _ => ⟨o.slots, kp b o hc e⟩)
      (fun b o _ e n => n) (fun b o hc e => ⟨o, kp b o hc e⟩) (fun b zs e => e) (fun b o u e => e) (fun b ps e => ⟨#[], by rw [e]; simp⟩) (fun m hm => ?_) (fun b o e => ?_) I.bare
    · obtain ⟨g0, g1, g2, g3, g4, g5⟩ := hf b hb
      exact ⟨g3, g1, g4, g5⟩
    · obtain ⟨o, es, ep, ho', r⟩ := hm
      exact ⟨o, es, ep, kp _ o (fun hb => (hf _ hb).2.1 rfl) ho', r⟩
    · refine (I.hok b o e).stay (fun c' w' hc' q => kp c' w' ?_ q) (fun c' q => q) fun c' zs q => q
      rcases hc' with rfl | hc'
      · exact notfp _ _ e
      · exact notfp _ _ hc'
  self := fun _ _ _ _ _ st h => wpAny_pyIter_zip st.1 h

def iZip (K : PySem.W.Frag) (ta : TA) : TI := fun σ H R => ta σ H fun vs H1 => ∃ b1 a1 b2 a2, vs = [.ref a1, .ref a2] ∧ (∃ xs, SqG b1 K H1 a1 xs) ∧ (∃ ys, SqG b2 K H1 a2 ys) ∧ R (Itz K b1 a1 b2 a2) H1
theorem pi_zip {X : Cx} {es : List Expr} {x1 : Nat} {tp : Pos} {a b : Expr} {ta : TA} {p pos : Pos} (hg : Gl X "zip") (hm : X.mg "zip" = none) (ha : PA X [a, b] ta) (hs : starEach [a, b] X.env = [(false, eval a X.env), (false, eval b X.env)] := by rfl) (hs2 : starEach [b] X.env = [(false, eval b X.env)] := by rfl) :
    PI X (.Tuple es x1 tp) (.Call (.Name "zip" p) [a, b] [] pos) (iZip X.K ta) := by
  intro pins s σ H R I h
  refine Call_ (ld_blt I hg hm boot_zip (PyProof.Rows.callWith_type1 (thn (ha pos pins s σ H _ I h) fun us s1 ⟨vs, H1, I1, r1, q1⟩ => ?_) (by rw [hs, hs2]) (by rw [hs2]; rfl)))
  obtain ⟨b1, a1, b2, a2, e, ⟨xs, q1⟩, ⟨ys, q2⟩, q⟩ := q1
  subst e
  cases r1 with
  | cons r rr =>
    cases rr with
    | cons r' rr =>
      cases rr
      cases r
      cases r'
      obtain ⟨its, rv, p1, z1⟩ := I1.sq q1
      obtain ⟨jts, sv, p2, z2⟩ := I1.sq q2
      refine ZG.call_zip p1 p2 fun g gz gi go g1 g2 gs gk => wpAny_pyIter_zip (s := { s1 with heap := g }) gz ?_
      have I2 : Inv X pins σ H1 { s1 with heap := g } := I1.kept (t' := s1.toks) gk
      refine ⟨_, _, _, _, H1, rfl, I2, turn_zip b1 a1 b2 a2 _ (s1.heap.objs.size + 2) (s1.heap.objs.size + 3) s1.heap.objs.size (s1.heap.objs.size + 1) ?_, ⟨gz, gi, ⟨_, _, go⟩, g1, g2⟩, fun b hb => ?_, q⟩
      · constructor <;> (show (_ : Nat) ≠ _) <;> omega
      · have hb' : s1.heap.objs.size ≤ b := by
          have z : b = s1.heap.objs.size + 4 ∨ b = s1.heap.objs.size + 2 ∨ b = s1.heap.objs.size + 3 ∨ b = s1.heap.objs.size ∨ b = s1.heap.objs.size + 1 := by simpa using hb
          rcases z with z | z | z | z | z <;> rw [z] <;> (show (_ : Nat) ≤ _) <;> omega
        exact I1.fpOk hb' (I1.hok.fresh hb')

/-! ### all, any -/
def bools (bs : List Bool) : List V := bs.map V.bl
theorem bools_get {bs : List Bool} {us : List Value} (r : Vals (bools bs) us) {i : Nat} {u : Value} (h : us[i]? = some u) : ∃ b, bs[i]? = some b ∧ u = .bool b := by
  have hl := r.length
  have hi : i < us.length := (List.getElem?_eq_some_iff.mp h).1
  have hb : i < bs.length := by rw [← hl] at hi; simpa [bools] using hi
  have e : (bools bs)[i]? = some (.bl bs[i]) := by unfold bools; rw [List.getElem?_map, List.getElem?_eq_getElem hb]; rfl
  obtain ⟨u', h', ru⟩ := r.get e
  rw [h] at h'
  cases h'
  exact ⟨bs[i], List.getElem?_eq_getElem hb, ru⟩
theorem range_all' (bs : List Bool) : ((List.range bs.length).all fun i => (bs[i]?).getD true) = bs.all id := by
  have e : bs = (List.range bs.length).map fun i => (bs[i]?).getD true := by
    apply List.ext_getElem
    · simp
    · intro i h1 h2; simp [h1]
  conv => rhs; rw [e, List.all_map]
  rfl
section
variable {X : Cx}
theorem call_all (hc : X.calm = true) : CallR X (.builtin "all") (fun xs H Q => ∃ a bs, xs = [.ref a] ∧ SqL X.K H a (bools bs) ∧ Q (.bl (bs.all id)) H) := by
  intro pins s σ H xs us Q I r h
  obtain ⟨a, bs, rfl, hq, q⟩ := h
  obtain ⟨u, rfl, ru⟩ := vals1 r
  cases ru
  obtain ⟨its, rv, p, z⟩ := I.list hq
  have hl := p.isList
  have hlt : a < s.heap.objs.size := by obtain ⟨_, e, _⟩ := hl; exact Heap.lt_size e
  have hlen : its.toArray.size = bs.length := by rw [List.size_toArray, ← rv.length]; simp [bools]
  refine call_all_walk (wpAny_pyIter_list hl ⟨s.heap.objs.size, [s.heap.objs.size, a], [s.heap.objs.size], its.toArray.size, _, _, fun i => (bs[i]?).getD true, rfl, Walks.list (A := X.A.in1) (I.ok.hd hc) _ a (Nat.ne_of_lt hlt) its.toArray, ⟨⟨_, Heap.get?_push_size _ rfl, rfl, rfl⟩, hl.push _⟩, fun i v s' Q' E' hP hQ => ?_, fun h' tk hk => ?_⟩)
  · obtain ⟨b, e, rfl⟩ := bools_get rv (i := i) (u := v) (by simpa using hP)
    simp only [e, Option.getD_some] at hQ
    exact wpAny_truthy_bool hQ
  · rw [hlen, range_all']
    exact ⟨.bl (bs.all id), H, I.kept (t' := tk) (LSm.kept_iter hk), rfl, q⟩
end

/-! ### isinstance of the built-in kinds -/
inductive Ty where
  | non | bl | int | str | lst | tup | dct
  deriving DecidableEq
def Ty.nm : Ty → String
  | .non => "NoneType"
  | .bl => "bool"
  | .int => "int"
  | .str => "str"
  | .lst => "list"
  | .tup => "tuple"
  | .dct => "dict"
def isA (t c : Ty) : Bool := decide (t = c) || (decide (t = .bl) && decide (c = .int))
/-- a value's kind -/
inductive TyG (K : PySem.W.Frag) (H : Hp) : V → Ty → Prop where
  | non : TyG K H .non .non
  | bl (b : Bool) : TyG K H (.bl b) .bl
  | int (i : Int) : TyG K H (.int i) .int
  | str (x : Str) : TyG K H (.str x) .str
  | lst {a : Addr} {xs : List V} (h : SqL K H a xs) : TyG K H (.ref a) .lst
  | tup {a : Addr} {xs : List V} (h : SqT K H a xs) : TyG K H (.ref a) .tup
  | dct {a : Addr} {kvs : List (Key × V)} (h : H a = some (.dK kvs)) : TyG K H (.ref a) .dct
theorem kit_ask (K : PySem.W.Frag) (t c : Ty) : PySem.W.kitOne K (.type t.nm) (.type c.nm) = some (isA t c) := by
  cases t <;> cases c <;> kernel_rfl
theorem kit_any (K : PySem.W.Frag) (t : Ty) : ∀ cs : List Ty, PySem.W.kitAny K (.type t.nm) (cs.map fun c => Value.type c.nm) = some (cs.any (isA t))
  | [] => rfl
  | c :: r => by
    rw [List.map_cons, List.any_cons]
    unfold PySem.W.kitAny
    rw [kit_ask]
    cases isA t c with
    | true => rfl
    | false => exact kit_any K t r
section
variable {X : Cx} {pins : List (Addr × Obj)} {σ : St} {H : Hp} {s : Shared} {A : Around} {E : Value → Shared → Prop} {Q : Value → Shared → Prop}
theorem Vals.tys : ∀ {cs : List Ty} {us : List Value}, Vals (cs.map fun c => V.ty c.nm) us → us = cs.map fun c => Value.type c.nm
  | [], _, .nil => rfl
  | c :: r, _, .cons h t => by
    have e : _ = Value.type c.nm := h
    rw [List.map_cons, ← Vals.tys t, e]
/-- of one kind or of several -/
def KindArg (K : PySem.W.Frag) (H : Hp) (y : V) (cs : List Ty) : Prop := (∃ c, y = .ty c.nm ∧ cs = [c]) ∨ ∃ p, y = .ref p ∧ H p = some (.tup (cs.map fun c => V.ty c.nm))
theorem isinst_g {x y : V} {u v : Value} {t : Ty} {cs : List Ty} (I : Inv X pins σ H s) (rx : RelV x u) (ry : RelV y v) (ty : TyG X.K H x t) (ka : KindArg X.K H y cs) (h : ∀ tk, Q (.bool (cs.any (isA t))) { s with toks := tk }) :
    wpAny (model X.prog X.w) A (call (.builtin "isinstance") [u, v]) Q E s := by
  have go : ∀ {P : Heap → Prop}, PySem.W.KitX X.K u (.type t.nm) P → P s.heap → u ≠ .builtin "__main__.__loader__#opaque" → wpAny (model X.prog X.w) A (call (.builtin "isinstance") [u, v]) Q E s := fun {P} Z p hx => by
    rcases ka with ⟨c, rfl, rfl⟩ | ⟨q, rfl, hq⟩
    · cases (show v = Value.type c.nm from ry)
      have e : ([c].any (isA t)) = isA t c := by simp
      exact PySem.W.kia_one Z I.kIn p (kit_ask X.K t c) hx (fun tk => by rw [← e]; exact h tk)
    · cases (show v = Value.ref q from ry)
      obtain ⟨_, its, rv, o, ho, hc, n, hd⟩ := (show ObjOk X.prog X.w H s.heap q (.tup _) from I.hok q _ hq)
      have e := rv.tys
      subst e
      obtain ⟨c, dd, dt, sl⟩ := o
      cases (show c = _ from hc)
      cases (show dt = _ from hd)
      exact PySem.W.kia_tup Z I.kIn p ho (kit_any X.K t cs) hx h
  cases ty with
  | non => cases (show u = Value.none from rx); exact go PySem.W.kitx_none True.intro (fun z => nomatch z)
  | bl y => cases (show u = Value.bool y from rx); exact go PySem.W.kitx_bool True.intro (fun z => nomatch z)
  | int i => obtain ⟨t, q⟩ := (show ∃ t, u = Value.int i t from rx); cases q; exact go PySem.W.kitx_int True.intro (fun z => nomatch z)
  | str y => obtain ⟨t, q⟩ := (show ∃ t, u = Value.str y t from rx); cases q; exact go PySem.W.kitx_str True.intro (fun z => nomatch z)
  | @lst a xs hq =>
    cases (show u = Value.ref a from rx)
    obtain ⟨_, _, p, _⟩ := I.list hq
    obtain ⟨o, h1, h2, _⟩ := p.isList
    exact go PySem.W.kitx_list ⟨o, h1, h2⟩ (fun z => nomatch z)
  | @tup a xs hq =>
    cases (show u = Value.ref a from rx)
    obtain ⟨_, _, p, _⟩ := I.tuple hq
    obtain ⟨o, h1, h2, _⟩ := p
    exact go PySem.W.kitx_tuple ⟨o, h1, h2⟩ (fun z => nomatch z)
  | @dct a kvs hq =>
    cases (show u = Value.ref a from rx)
    obtain ⟨_, _, vs, _, p⟩ := (show ObjOk X.prog X.w H s.heap a (.dK kvs) from I.hok a _ hq)
    obtain ⟨o, es, ep, h1, h2, _⟩ := p
    exact go PySem.W.kitx_dict ⟨o, h1, h2.1⟩ (fun z => nomatch z)
theorem call_isinst : CallR X (.builtin "isinstance") (fun xs H Q => ∃ x y t cs, xs = [x, y] ∧ TyG X.K H x t ∧ KindArg X.K H y cs ∧ Q (.bl (cs.any (isA t))) H) := by
  intro pins s σ H xs us Q I r h
  obtain ⟨x, y, t, cs, rfl, ty, ka, q⟩ := h
  cases r with
  | cons r rr =>
    cases rr with
    | cons r' rr =>
      cases rr
      exact isinst_g I r r' ty ka fun tk => ⟨.bl (cs.any (isA t)), H, I.tok tk, rfl, q⟩
end
end L2

/-! OWN RULES 3: deep data (ints, bools, texts, None, lists and tuples of data), what stands for it in the heap, == and != and in -/
namespace L2
open PySem PySem.Spec PyProof.Rows
inductive Dt where
  | int (i : Int) | bl (b : Bool) | str (x : Str) | non | lst (ds : List Dt) | tup (ds : List Dt)
mutual
def Has (K : PySem.W.Frag) (H : Hp) : Dt → V → Prop
  | .int i, v => v = .int i
  | .bl b, v => v = .bl b
  | .str x, v => v = .str x
  | .non, v => v = .non
  | .lst ds, v => ∃ a xs, v = .ref a ∧ SqL K H a xs ∧ HasL K H ds xs
  | .tup ds, v => ∃ a xs, v = .ref a ∧ SqT K H a xs ∧ HasL K H ds xs
def HasL (K : PySem.W.Frag) (H : Hp) : List Dt → List V → Prop
  | [], xs => xs = []
  | d :: r, xs => ∃ x t, xs = x :: t ∧ Has K H d x ∧ HasL K H r t
end
mutual
def dpt : Dt → Nat
  | .lst ds => dptL ds + 1
  | .tup ds => dptL ds + 1
  | _ => 0
def dptL : List Dt → Nat
  | [] => 0
  | d :: r => max (dpt d) (dptL r)
end
mutual
def eqD : Dt → Dt → Bool
  | .int a, .int b => a == b
  | .int a, .bl b => a == (if b then 1 else 0)
  | .bl a, .int b => (if a then 1 else 0) == b
  | .bl a, .bl b => a == b
  | .str a, .str b => a == b
  | .non, .non => true
  | .lst xs, .lst ys => eqL xs ys
  | .tup xs, .tup ys => eqL xs ys
  | _, _ => false
def eqL : List Dt → List Dt → Bool
  | [], [] => true
  | x :: xs, y :: ys => eqD x y && eqL xs ys
  | _, _ => false
end
mutual
theorem eqD_same : ∀ d : Dt, eqD d d = true
  | .int a => by simp [eqD]
  | .bl a => by simp [eqD]
  | .str a => by simp [eqD]
  | .non => by simp [eqD]
  | .lst xs => by rw [eqD]; exact eqL_same xs
  | .tup xs => by rw [eqD]; exact eqL_same xs
theorem eqL_same : ∀ ds : List Dt, eqL ds ds = true
  | [] => by simp [eqL]
  | d :: r => by rw [eqL, eqD_same d, eqL_same r]; rfl
end
theorem HasL.len {K : PySem.W.Frag} {H : Hp} : ∀ {ds : List Dt} {xs : List V}, HasL K H ds xs → ds.length = xs.length
  | [], xs, h => by rw [HasL] at h; rw [h]; rfl
  | d :: r, xs, h => by
    rw [HasL] at h
    obtain ⟨x, t, rfl, _, ht⟩ := h
    rw [List.length_cons, List.length_cons, HasL.len ht]
theorem HasL.get {K : PySem.W.Frag} {H : Hp} : ∀ {ds : List Dt} {xs : List V} {i : Nat} {d : Dt} {x : V}, HasL K H ds xs → ds[i]? = some d → xs[i]? = some x → Has K H d x
  | [], xs, i, d, x, h, e, _ => by simp at e
  | c :: r, xs, 0, d, x, h, e, f => by
    rw [HasL] at h
    obtain ⟨y, t, rfl, hy, ht⟩ := h
    simp at e f
    subst e f
    exact hy
  | c :: r, xs, i + 1, d, x, h, e, f => by
    rw [HasL] at h
    obtain ⟨y, t, rfl, hy, ht⟩ := h
    exact HasL.get ht (i := i) (by simpa using e) (by simpa using f)
theorem SqL.same {K : PySem.W.Frag} {H H' : Hp} {a : Addr} {xs : List V} (e : Same H H') (h : SqL K H a xs) : SqL K H' a xs := e.seq h
theorem SqT.same {K : PySem.W.Frag} {H H' : Hp} {a : Addr} {xs : List V} (e : Same H H') (h : SqT K H a xs) : SqT K H' a xs := by
  rcases h with (h | ⟨o, h⟩) | h
  · exact .inl (.inl (e _ _ h))
  · exact .inl (.inr ⟨o, e _ _ h⟩)
  · exact .inr h
theorem SqG.same {b : Bool} {K : PySem.W.Frag} {H H' : Hp} {a : Addr} {xs : List V} (e : Same H H') (h : SqG b K H a xs) : SqG b K H' a xs := by
  cases b with
  | true => exact SqT.same e h
  | false => exact SqL.same e h
mutual
theorem Has.same {K : PySem.W.Frag} {H H' : Hp} (e : Same H H') : ∀ {d : Dt} {v : V}, Has K H d v → Has K H' d v
  | .int i, v, h => by rw [Has] at h ⊢; exact h
  | .bl i, v, h => by rw [Has] at h ⊢; exact h
  | .str i, v, h => by rw [Has] at h ⊢; exact h
  | .non, v, h => by rw [Has] at h ⊢; exact h
  | .lst ds, v, h => by
    rw [Has] at h ⊢
    obtain ⟨a, xs, hv, hs, hl⟩ := h
    exact ⟨a, xs, hv, SqL.same e hs, HasL.same e hl⟩
  | .tup ds, v, h => by
    rw [Has] at h ⊢
    obtain ⟨a, xs, hv, hs, hl⟩ := h
    exact ⟨a, xs, hv, SqT.same e hs, HasL.same e hl⟩
theorem HasL.same {K : PySem.W.Frag} {H H' : Hp} (e : Same H H') : ∀ {ds : List Dt} {xs : List V}, HasL K H ds xs → HasL K H' ds xs
  | [], xs, h => by rw [HasL] at h ⊢; exact h
  | d :: r, xs, h => by
    rw [HasL] at h ⊢
    obtain ⟨x, t, hx, h1, h2⟩ := h
    exact ⟨x, t, hx, Has.same e h1, HasL.same e h2⟩
end
theorem HasL.append {K : PySem.W.Frag} {H : Hp} : ∀ {ds es : List Dt} {xs ys : List V}, HasL K H ds xs → HasL K H es ys → HasL K H (ds ++ es) (xs ++ ys)
  | [], es, xs, ys, h, g => by rw [HasL] at h; subst h; exact g
  | d :: r, es, xs, ys, h, g => by
    rw [HasL] at h
    obtain ⟨x, t, rfl, h1, h2⟩ := h
    show HasL K H (d :: (r ++ es)) (x :: (t ++ ys))
    rw [HasL]
    exact ⟨x, t ++ ys, rfl, h1, HasL.append h2 g⟩
theorem hasL_nil {K : PySem.W.Frag} {H : Hp} : HasL K H [] [] := by rw [HasL]
theorem hasL_cons {K : PySem.W.Frag} {H : Hp} {d : Dt} {r : List Dt} {x : V} {t : List V} (h : Has K H d x) (g : HasL K H r t) : HasL K H (d :: r) (x :: t) := by rw [HasL]; exact ⟨x, t, rfl, h, g⟩
/-- ints -/
def di (ns : List Int) : List Dt := ns.map Dt.int
theorem hasL_ints {K : PySem.W.Frag} {H : Hp} : ∀ ns : List Int, HasL K H (di ns) (ns.map V.int)
  | [] => hasL_nil
  | n :: r => hasL_cons (by rw [Has]) (hasL_ints r)
theorem ints_hasL {K : PySem.W.Frag} {H : Hp} : ∀ {ns : List Int} {xs : List V}, HasL K H (di ns) xs → xs = ns.map V.int
  | [], xs, h => by
    have h : HasL K H [] xs := h
    rw [HasL] at h; exact h
  | n :: r, xs, h => by
    have h : HasL K H (Dt.int n :: di r) xs := h
    rw [HasL] at h
    obtain ⟨x, t, rfl, h1, h2⟩ := h
    rw [Has] at h1
    rw [h1, ints_hasL h2]
    rfl
theorem has_tupI {K : PySem.W.Frag} {H : Hp} {p : Addr} {ns : List Int} (h : SqT K H p (ns.map V.int)) : Has K H (.tup (di ns)) (.ref p) := by rw [Has]; exact ⟨p, _, rfl, h, hasL_ints ns⟩
theorem has_lstI {K : PySem.W.Frag} {H : Hp} {p : Addr} {ns : List Int} (h : SqL K H p (ns.map V.int)) : Has K H (.lst (di ns)) (.ref p) := by rw [Has]; exact ⟨p, _, rfl, h, hasL_ints ns⟩
theorem dptL_ints : ∀ ns : List Int, dptL (di ns) = 0
  | [] => by simp [di, dptL]
  | n :: r => by
    have ih := dptL_ints r
    show dptL (Dt.int n :: di r) = 0
    simp [dptL, dpt, ih]
/-! ### == in depth -/
theorem dptL_get : ∀ {ds : List Dt} {i : Nat} {d : Dt}, ds[i]? = some d → dpt d ≤ dptL ds
  | [], i, d, e => by simp at e
  | c :: r, 0, d, e => by simp at e; subst e; rw [dptL]; exact Nat.le_max_left _ _
  | c :: r, i + 1, d, e => by
    have q : dpt d ≤ dptL r := dptL_get (i := i) (by simpa using e)
    rw [dptL]
    exact Nat.le_trans q (Nat.le_max_right _ _)
theorem eqL_range : ∀ (ds es : List Dt), ds.length = es.length → ((List.range ds.length).all fun j => eqD (ds.getD j .non) (es.getD j .non)) = eqL ds es
  | [], [], _ => by simp [eqL]
  | [], e :: r, h => by simp at h
  | d :: r, [], h => by simp at h
  | d :: r, e :: t, h => by
    have h' : r.length = t.length := by simpa using h
    rw [eqL, ← eqL_range r t h', List.length_cons, List.range_succ_eq_map, List.all_cons, List.all_map]
    rfl
theorem eqL_len : ∀ {ds es : List Dt}, eqL ds es = true → ds.length = es.length
  | [], [], _ => rfl
  | [], e :: r, h => by simp [eqL] at h
  | d :: r, [], h => by simp [eqL] at h
  | d :: r, e :: t, h => by
    rw [eqL, Bool.and_eq_true] at h
    rw [List.length_cons, List.length_cons, eqL_len h.2]
theorem all_min_eqL : ∀ (ds es : List Dt), (((List.range (min ds.length es.length)).all fun j => eqD (ds.getD j .non) (es.getD j .non)) && ds.length == es.length) = eqL ds es := by
  intro ds es
  by_cases h : ds.length = es.length
  · rw [← eqL_range ds es h, h, Nat.min_self]
    simp
  · have : eqL ds es = false := Bool.eq_false_iff.mpr fun z => h (eqL_len z)
    rw [this]
    have : (ds.length == es.length) = false := by simpa using h
    rw [this, Bool.and_false]
section
variable {X : Cx} {pins : List (Addr × Obj)} {σ : St} {H : Hp} {s : Shared}
/-- two sequences' items, by place -/
theorem items_eq (n : Nat) {A : Around} (hA : A.units + 1 + n < cLine + 1) (I : Inv X pins σ H s) {ds es : List Dt} {xs ys : List V} {its jts : List Value} (h1 : HasL X.K H ds xs) (h2 : HasL X.K H es ys) (r1 : Vals xs its) (r2 : Vals ys jts)
    (rec : ∀ d e x y u v, d ∈ ds → e ∈ es → Has X.K H d x → Has X.K H e y → RelV x u → RelV y v → SeqAt.EqAt A.in1 s u v (eqD d e)) :
    ∀ j (g1 : j < its.toArray.size) (g2 : j < jts.toArray.size), SeqAt.EqAt A.in1 s its.toArray[j] jts.toArray[j] (eqD (ds.getD j .non) (es.getD j .non)) := by
  intro j g1 g2
  have l1 := r1.length
  have l2 := r2.length
  have m1 := h1.len
  have m2 := h2.len
  have g1' : j < its.length := by simpa using g1
  have g2' : j < jts.length := by simpa using g2
  have a1 : j < xs.length := by omega
  have a2 : j < ys.length := by omega
  have b1 : j < ds.length := by omega
  have b2 : j < es.length := by omega
  obtain ⟨u, hu, ru⟩ := r1.get (List.getElem?_eq_getElem a1)
  obtain ⟨v, hv, rv⟩ := r2.get (List.getElem?_eq_getElem a2)
  rw [List.getElem?_eq_getElem g1'] at hu
  rw [List.getElem?_eq_getElem g2'] at hv
  cases hu
  cases hv
  have e1 : ds.getD j .non = ds[j] := by simp [List.getD_eq_getElem?_getD, b1]
  have e2 : es.getD j .non = es[j] := by simp [List.getD_eq_getElem?_getD, b2]
  rw [e1, e2]
  have := rec ds[j] es[j] xs[j] ys[j] its[j] jts[j] (List.getElem_mem b1) (List.getElem_mem b2) (h1.get (List.getElem?_eq_getElem b1) (List.getElem?_eq_getElem a1)) (h2.get (List.getElem?_eq_getElem b2) (List.getElem?_eq_getElem a2)) ru rv
  simpa using this
theorem dpt_mem {ds : List Dt} {d : Dt} (h : d ∈ ds) : dpt d ≤ dptL ds := by
  obtain ⟨i, hi⟩ := List.getElem?_of_mem h
  exact dptL_get hi
mutual
theorem Has.inj (I : Inv X pins σ H s) : ∀ {d e : Dt} {x : V}, Has X.K H d x → Has X.K H e x → d = e
  | .int a, .int b, x, h1, h2 => by
    rw [Has] at h1
    rw [Has] at h2
    rw [h1] at h2
    cases h2
    rfl
  | .int a, .bl b, x, h1, h2 => by
    rw [Has] at h1
    rw [Has] at h2
    rw [h1] at h2
    cases h2
  | .int a, .str b, x, h1, h2 => by
    rw [Has] at h1
    rw [Has] at h2
    rw [h1] at h2
    cases h2
  | .int a, .non, x, h1, h2 => by
    rw [Has] at h1
    rw [Has] at h2
    rw [h1] at h2
    cases h2
  | .int a, .lst b, x, h1, h2 => by
    rw [Has] at h1
    rw [Has] at h2
    obtain ⟨p, xs, e, s1, l1⟩ := h2
    rw [h1] at e
    cases e
  | .int a, .tup b, x, h1, h2 => by
    rw [Has] at h1
    rw [Has] at h2
    obtain ⟨p, xs, e, s1, l1⟩ := h2
    rw [h1] at e
    cases e
  | .bl a, .int b, x, h1, h2 => by
    rw [Has] at h1
    rw [Has] at h2
    rw [h1] at h2
    cases h2
  | .bl a, .bl b, x, h1, h2 => by
    rw [Has] at h1
    rw [Has] at h2
    rw [h1] at h2
    cases h2
    rfl
  | .bl a, .str b, x, h1, h2 => by
    rw [Has] at h1
    rw [Has] at h2
    rw [h1] at h2
    cases h2
  | .bl a, .non, x, h1, h2 => by
    rw [Has] at h1
    rw [Has] at h2
    rw [h1] at h2
    cases h2
  | .bl a, .lst b, x, h1, h2 => by
    rw [Has] at h1
    rw [Has] at h2
    obtain ⟨p, xs, e, s1, l1⟩ := h2
    rw [h1] at e
    cases e
  | .bl a, .tup b, x, h1, h2 => by
    rw [Has] at h1
    rw [Has] at h2
    obtain ⟨p, xs, e, s1, l1⟩ := h2
    rw [h1] at e
    cases e
  | .str a, .int b, x, h1, h2 => by
    rw [Has] at h1
    rw [Has] at h2
    rw [h1] at h2
    cases h2
  | .str a, .bl b, x, h1, h2 => by
    rw [Has] at h1
    rw [Has] at h2
    rw [h1] at h2
    cases h2
  | .str a, .str b, x, h1, h2 => by
    rw [Has] at h1
    rw [Has] at h2
    rw [h1] at h2
    cases h2
    rfl
  | .str a, .non, x, h1, h2 => by
    rw [Has] at h1
    rw [Has] at h2
    rw [h1] at h2
    cases h2
  | .str a, .lst b, x, h1, h2 => by
    rw [Has] at h1
    rw [Has] at h2
    obtain ⟨p, xs, e, s1, l1⟩ := h2
    rw [h1] at e
    cases e
  | .str a, .tup b, x, h1, h2 => by
    rw [Has] at h1
    rw [Has] at h2
    obtain ⟨p, xs, e, s1, l1⟩ := h2
    rw [h1] at e
    cases e
  | .non, .int b, x, h1, h2 => by
    rw [Has] at h1
    rw [Has] at h2
    rw [h1] at h2
    cases h2
  | .non, .bl b, x, h1, h2 => by
    rw [Has] at h1
    rw [Has] at h2
    rw [h1] at h2
    cases h2
  | .non, .str b, x, h1, h2 => by
    rw [Has] at h1
    rw [Has] at h2
    rw [h1] at h2
    cases h2
  | .non, .non, x, h1, h2 => rfl
  | .non, .lst b, x, h1, h2 => by
    rw [Has] at h1
    rw [Has] at h2
    obtain ⟨p, xs, e, s1, l1⟩ := h2
    rw [h1] at e
    cases e
  | .non, .tup b, x, h1, h2 => by
    rw [Has] at h1
    rw [Has] at h2
    obtain ⟨p, xs, e, s1, l1⟩ := h2
    rw [h1] at e
    cases e
  | .lst a, .int b, x, h1, h2 => by
    rw [Has] at h1
    rw [Has] at h2
    obtain ⟨p, xs, rfl, s1, l1⟩ := h1
    cases h2
  | .lst a, .bl b, x, h1, h2 => by
    rw [Has] at h1
    rw [Has] at h2
    obtain ⟨p, xs, rfl, s1, l1⟩ := h1
    cases h2
  | .lst a, .str b, x, h1, h2 => by
    rw [Has] at h1
    rw [Has] at h2
    obtain ⟨p, xs, rfl, s1, l1⟩ := h1
    cases h2
  | .lst a, .non, x, h1, h2 => by
    rw [Has] at h1
    rw [Has] at h2
    obtain ⟨p, xs, rfl, s1, l1⟩ := h1
    cases h2
  | .lst a, .lst b, x, h1, h2 => by
    rw [Has] at h1
    rw [Has] at h2
    obtain ⟨p, xs, rfl, s1, l1⟩ := h1
    obtain ⟨q, ys, e, s2, l2⟩ := h2
    cases e
    have e := I.list_inj s1 s2
    subst e
    rw [HasL.inj I l1 l2]
  | .lst a, .tup b, x, h1, h2 => by
    rw [Has] at h1
    rw [Has] at h2
    obtain ⟨p, xs, rfl, s1, l1⟩ := h1
    obtain ⟨q, ys, e, s2, l2⟩ := h2
    cases e
    obtain ⟨_, _, pl, _⟩ := I.list s1
    obtain ⟨_, _, pt, _⟩ := I.tuple s2
    obtain ⟨o1, g1, c1, _⟩ := pl.isList
    obtain ⟨o2, g2, c2, _⟩ := pt
    rw [g1] at g2
    cases g2
    rw [c1] at c2
    exact absurd c2 (by decide)
  | .tup a, .int b, x, h1, h2 => by
    rw [Has] at h1
    rw [Has] at h2
    obtain ⟨p, xs, rfl, s1, l1⟩ := h1
    cases h2
  | .tup a, .bl b, x, h1, h2 => by
    rw [Has] at h1
    rw [Has] at h2
    obtain ⟨p, xs, rfl, s1, l1⟩ := h1
    cases h2
  | .tup a, .str b, x, h1, h2 => by
    rw [Has] at h1
    rw [Has] at h2
    obtain ⟨p, xs, rfl, s1, l1⟩ := h1
    cases h2
  | .tup a, .non, x, h1, h2 => by
    rw [Has] at h1
    rw [Has] at h2
    obtain ⟨p, xs, rfl, s1, l1⟩ := h1
    cases h2
  | .tup a, .lst b, x, h1, h2 => by
    rw [Has] at h1
    rw [Has] at h2
    obtain ⟨p, xs, rfl, s1, l1⟩ := h1
    obtain ⟨q, ys, e, s2, l2⟩ := h2
    cases e
    obtain ⟨_, _, pl, _⟩ := I.list s2
    obtain ⟨_, _, pt, _⟩ := I.tuple s1
    obtain ⟨o1, g1, c1, _⟩ := pl.isList
    obtain ⟨o2, g2, c2, _⟩ := pt
    rw [g1] at g2
    cases g2
    rw [c1] at c2
    exact absurd c2 (by decide)
  | .tup a, .tup b, x, h1, h2 => by
    rw [Has] at h1
    rw [Has] at h2
    obtain ⟨p, xs, rfl, s1, l1⟩ := h1
    obtain ⟨q, ys, e, s2, l2⟩ := h2
    cases e
    have e := I.tuple_inj s1 s2
    subst e
    rw [HasL.inj I l1 l2]
theorem HasL.inj (I : Inv X pins σ H s) : ∀ {ds es : List Dt} {xs : List V}, HasL X.K H ds xs → HasL X.K H es xs → ds = es
  | [], [], xs, h1, h2 => rfl
  | [], e :: r, xs, h1, h2 => by
    rw [HasL] at h1
    rw [HasL] at h2
    obtain ⟨y, t, e, _, _⟩ := h2
    rw [h1] at e
    cases e
  | d :: r, [], xs, h1, h2 => by
    rw [HasL] at h1
    rw [HasL] at h2
    obtain ⟨y, t, e, _, _⟩ := h1
    rw [h2] at e
    cases e
  | d :: r, e :: q, xs, h1, h2 => by
    rw [HasL] at h1
    rw [HasL] at h2
    obtain ⟨x, t, rfl, g1, g2⟩ := h1
    obtain ⟨y, w, z, k1, k2⟩ := h2
    cases z
    rw [Has.inj I g1 k1, HasL.inj I g2 k2]
end
theorem eq_of_rc {A : Around} {a b : Addr} {k : Bool} (h : SeqAt.RcAt A s (.ref a) (.ref b) k) (hk : a = b → k = true) : SeqAt.EqAt A s (.ref a) (.ref b) k := by
  by_cases e : a = b
  · rw [hk e, e]
    exact SeqAt.EqAt.same _
  · exact SeqAt.EqAt.of_refs e h
theorem eq_deep (I : Inv X pins σ H s) : ∀ (n : Nat) (A : Around) (d e : Dt) (x y : V) (u v : Value), dpt d ≤ n → A.units + n < cLine → Has X.K H d x → Has X.K H e y → RelV x u → RelV y v →
    SeqAt.RcAt A s u v (eqD d e) ∧ SeqAt.RcNeAt A s u v (!eqD d e) ∧ SeqAt.EqAt A s u v (eqD d e) := by
  intro n
  induction n with
  | zero =>
    intro A d e x y u v hd hA h1 h2 r1 r2
    have hu : A.units < cLine := by omega
    cases d with
    | int a =>
      rw [Has] at h1
      subst h1
      obtain ⟨t, rfl⟩ := r1
      cases e with
      | int b =>
        rw [Has] at h2
        subst h2
        obtain ⟨t', rfl⟩ := r2
        have ef : eqD (.int a) (.int b) = (a == b) := by simp [eqD]
        rw [ef]
        exact ⟨SeqAt.RcAt.int_int a t b t', SeqAt.RcNeAt.int_int a t b t', SeqAt.EqAt.int_int a t b t'⟩
      | bl b =>
        rw [Has] at h2
        subst h2
        cases r2
        have ef : eqD (.int a) (.bl b) = (a == (if b then 1 else 0)) := by simp [eqD]
        rw [ef]
        exact ⟨SeqAt.RcAt.int_bool a t b, SeqAt.RcNeAt.int_bool a t b, SeqAt.EqAt.int_bool a t b⟩
      | str b =>
        rw [Has] at h2
        subst h2
        obtain ⟨t', rfl⟩ := r2
        have ef : eqD (.int a) (.str b) = false := by simp [eqD]
        rw [ef]
        exact ⟨SeqAt.RcAt.int_str a t b t', SeqAt.RcNeAt.int_str a t b t', SeqAt.EqAt.int_str a t b t'⟩
      | non =>
        rw [Has] at h2
        subst h2
        cases r2
        have ef : eqD (.int a) (.non) = false := by simp [eqD]
        rw [ef]
        exact ⟨SeqAt.RcAt.int_none a t, SeqAt.RcNeAt.int_none a t, SeqAt.EqAt.int_none a t⟩
      | lst b =>
        have h2k := h2
        rw [Has] at h2
        obtain ⟨q, ys, rfl, s2, l2⟩ := h2
        cases (show v = Value.ref q from r2)
        obtain ⟨jts, rv2, pl2, z2⟩ := I.list s2
        have hb := pl2.isList
        have ef : eqD (.int a) (.lst b) = false := by simp [eqD]
        rw [ef]
        exact ⟨SeqAt.RcAt.int_list a t hb hu, SeqAt.RcNeAt.int_list a t hb hu, SeqAt.EqAt.int_list a t hb hu⟩
      | tup b =>
        have h2k := h2
        rw [Has] at h2
        obtain ⟨q, ys, rfl, s2, l2⟩ := h2
        cases (show v = Value.ref q from r2)
        obtain ⟨jts, rv2, pl2, z2⟩ := I.tuple s2
        have hb : s.heap.IsTuple q jts.toArray := pl2
        have ef : eqD (.int a) (.tup b) = false := by simp [eqD]
        rw [ef]
        exact ⟨SeqAt.RcAt.int_tuple a t hb hu, SeqAt.RcNeAt.int_tuple a t hb hu, SeqAt.EqAt.int_tuple a t hb hu⟩
    | bl a =>
      rw [Has] at h1
      subst h1
      cases r1
      cases e with
      | int b =>
        rw [Has] at h2
        subst h2
        obtain ⟨t', rfl⟩ := r2
        have ef : eqD (.bl a) (.int b) = ((if a then 1 else 0) == b) := by simp [eqD]
        rw [ef]
        exact ⟨SeqAt.RcAt.bool_int a b t', SeqAt.RcNeAt.bool_int a b t', SeqAt.EqAt.bool_int a b t'⟩
      | bl b =>
        rw [Has] at h2
        subst h2
        cases r2
        have ef : eqD (.bl a) (.bl b) = (a == b) := by simp [eqD]
        rw [ef]
        exact ⟨SeqAt.RcAt.bool_bool a b, SeqAt.RcNeAt.bool_bool a b, SeqAt.EqAt.bool_bool a b⟩
      | str b =>
        rw [Has] at h2
        subst h2
        obtain ⟨t', rfl⟩ := r2
        have ef : eqD (.bl a) (.str b) = false := by simp [eqD]
        rw [ef]
        exact ⟨SeqAt.RcAt.bool_str a b t', SeqAt.RcNeAt.bool_str a b t', SeqAt.EqAt.bool_str a b t'⟩
      | non =>
        rw [Has] at h2
        subst h2
        cases r2
        have ef : eqD (.bl a) (.non) = false := by simp [eqD]
        rw [ef]
        exact ⟨SeqAt.RcAt.bool_none a, SeqAt.RcNeAt.bool_none a, SeqAt.EqAt.bool_none a⟩
      | lst b =>
        have h2k := h2
        rw [Has] at h2
        obtain ⟨q, ys, rfl, s2, l2⟩ := h2
        cases (show v = Value.ref q from r2)
        obtain ⟨jts, rv2, pl2, z2⟩ := I.list s2
        have hb := pl2.isList
        have ef : eqD (.bl a) (.lst b) = false := by simp [eqD]
        rw [ef]
        exact ⟨SeqAt.RcAt.bool_list a hb hu, SeqAt.RcNeAt.bool_list a hb hu, SeqAt.EqAt.bool_list a hb hu⟩
      | tup b =>
        have h2k := h2
        rw [Has] at h2
        obtain ⟨q, ys, rfl, s2, l2⟩ := h2
        cases (show v = Value.ref q from r2)
        obtain ⟨jts, rv2, pl2, z2⟩ := I.tuple s2
        have hb : s.heap.IsTuple q jts.toArray := pl2
        have ef : eqD (.bl a) (.tup b) = false := by simp [eqD]
        rw [ef]
        exact ⟨SeqAt.RcAt.bool_tuple a hb hu, SeqAt.RcNeAt.bool_tuple a hb hu, SeqAt.EqAt.bool_tuple a hb hu⟩
    | str a =>
      rw [Has] at h1
      subst h1
      obtain ⟨t, rfl⟩ := r1
      cases e with
      | int b =>
        rw [Has] at h2
        subst h2
        obtain ⟨t', rfl⟩ := r2
        have ef : eqD (.str a) (.int b) = false := by simp [eqD]
        rw [ef]
        exact ⟨SeqAt.RcAt.str_int a t b t', SeqAt.RcNeAt.str_int a t b t', SeqAt.EqAt.str_int a t b t'⟩
      | bl b =>
        rw [Has] at h2
        subst h2
        cases r2
        have ef : eqD (.str a) (.bl b) = false := by simp [eqD]
        rw [ef]
        exact ⟨SeqAt.RcAt.str_bool a t b, SeqAt.RcNeAt.str_bool a t b, SeqAt.EqAt.str_bool a t b⟩
      | str b =>
        rw [Has] at h2
        subst h2
        obtain ⟨t', rfl⟩ := r2
        have ef : eqD (.str a) (.str b) = (a == b) := by simp [eqD]
        rw [ef]
        exact ⟨SeqAt.RcAt.str_str a t b t', SeqAt.RcNeAt.str_str a t b t', SeqAt.EqAt.str_str a t b t'⟩
      | non =>
        rw [Has] at h2
        subst h2
        cases r2
        have ef : eqD (.str a) (.non) = false := by simp [eqD]
        rw [ef]
        exact ⟨SeqAt.RcAt.str_none a t, SeqAt.RcNeAt.str_none a t, SeqAt.EqAt.str_none a t⟩
      | lst b =>
        have h2k := h2
        rw [Has] at h2
        obtain ⟨q, ys, rfl, s2, l2⟩ := h2
        cases (show v = Value.ref q from r2)
        obtain ⟨jts, rv2, pl2, z2⟩ := I.list s2
        have hb := pl2.isList
        have ef : eqD (.str a) (.lst b) = false := by simp [eqD]
        rw [ef]
        exact ⟨SeqAt.RcAt.str_list a t hb hu, SeqAt.RcNeAt.str_list a t hb hu, SeqAt.EqAt.str_list a t hb hu⟩
      | tup b =>
        have h2k := h2
        rw [Has] at h2
        obtain ⟨q, ys, rfl, s2, l2⟩ := h2
        cases (show v = Value.ref q from r2)
        obtain ⟨jts, rv2, pl2, z2⟩ := I.tuple s2
        have hb : s.heap.IsTuple q jts.toArray := pl2
        have ef : eqD (.str a) (.tup b) = false := by simp [eqD]
        rw [ef]
        exact ⟨SeqAt.RcAt.str_tuple a t hb hu, SeqAt.RcNeAt.str_tuple a t hb hu, SeqAt.EqAt.str_tuple a t hb hu⟩
    | non =>
      rw [Has] at h1
      subst h1
      cases r1
      cases e with
      | int b =>
        rw [Has] at h2
        subst h2
        obtain ⟨t', rfl⟩ := r2
        have ef : eqD (.non) (.int b) = false := by simp [eqD]
        rw [ef]
        exact ⟨SeqAt.RcAt.none_int b t', SeqAt.RcNeAt.none_int b t', SeqAt.EqAt.none_int b t'⟩
      | bl b =>
        rw [Has] at h2
        subst h2
        cases r2
        have ef : eqD (.non) (.bl b) = false := by simp [eqD]
        rw [ef]
        exact ⟨SeqAt.RcAt.none_bool b, SeqAt.RcNeAt.none_bool b, SeqAt.EqAt.none_bool b⟩
      | str b =>
        rw [Has] at h2
        subst h2
        obtain ⟨t', rfl⟩ := r2
        have ef : eqD (.non) (.str b) = false := by simp [eqD]
        rw [ef]
        exact ⟨SeqAt.RcAt.none_str b t', SeqAt.RcNeAt.none_str b t', SeqAt.EqAt.none_str b t'⟩
      | non =>
        rw [Has] at h2
        subst h2
        cases r2
        have ef : eqD (.non) (.non) = true := by simp [eqD]
        rw [ef]
        exact ⟨SeqAt.RcAt.none_none , SeqAt.RcNeAt.none_none , SeqAt.EqAt.same _⟩
      | lst b =>
        have h2k := h2
        rw [Has] at h2
        obtain ⟨q, ys, rfl, s2, l2⟩ := h2
        cases (show v = Value.ref q from r2)
        obtain ⟨jts, rv2, pl2, z2⟩ := I.list s2
        have hb := pl2.isList
        have ef : eqD (.non) (.lst b) = false := by simp [eqD]
        rw [ef]
        exact ⟨SeqAt.RcAt.none_list hb hu, SeqAt.RcNeAt.none_list hb hu, SeqAt.EqAt.none_list hb hu⟩
      | tup b =>
        have h2k := h2
        rw [Has] at h2
        obtain ⟨q, ys, rfl, s2, l2⟩ := h2
        cases (show v = Value.ref q from r2)
        obtain ⟨jts, rv2, pl2, z2⟩ := I.tuple s2
        have hb : s.heap.IsTuple q jts.toArray := pl2
        have ef : eqD (.non) (.tup b) = false := by simp [eqD]
        rw [ef]
        exact ⟨SeqAt.RcAt.none_tuple hb hu, SeqAt.RcNeAt.none_tuple hb hu, SeqAt.EqAt.none_tuple hb hu⟩
    | lst a =>
      rw [dpt] at hd
      omega
    | tup a =>
      rw [dpt] at hd
      omega
  | succ n ih =>
    intro A d e x y u v hd hA h1 h2 r1 r2
    have hu : A.units < cLine := by omega
    cases d with
    | int a =>
      rw [Has] at h1
      subst h1
      obtain ⟨t, rfl⟩ := r1
      cases e with
      | int b =>
        rw [Has] at h2
        subst h2
        obtain ⟨t', rfl⟩ := r2
        have ef : eqD (.int a) (.int b) = (a == b) := by simp [eqD]
        rw [ef]
        exact ⟨SeqAt.RcAt.int_int a t b t', SeqAt.RcNeAt.int_int a t b t', SeqAt.EqAt.int_int a t b t'⟩
      | bl b =>
        rw [Has] at h2
        subst h2
        cases r2
        have ef : eqD (.int a) (.bl b) = (a == (if b then 1 else 0)) := by simp [eqD]
        rw [ef]
        exact ⟨SeqAt.RcAt.int_bool a t b, SeqAt.RcNeAt.int_bool a t b, SeqAt.EqAt.int_bool a t b⟩
      | str b =>
        rw [Has] at h2
        subst h2
        obtain ⟨t', rfl⟩ := r2
        have ef : eqD (.int a) (.str b) = false := by simp [eqD]
        rw [ef]
        exact ⟨SeqAt.RcAt.int_str a t b t', SeqAt.RcNeAt.int_str a t b t', SeqAt.EqAt.int_str a t b t'⟩
      | non =>
        rw [Has] at h2
        subst h2
        cases r2
        have ef : eqD (.int a) (.non) = false := by simp [eqD]
        rw [ef]
        exact ⟨SeqAt.RcAt.int_none a t, SeqAt.RcNeAt.int_none a t, SeqAt.EqAt.int_none a t⟩
      | lst b =>
        have h2k := h2
        rw [Has] at h2
        obtain ⟨q, ys, rfl, s2, l2⟩ := h2
        cases (show v = Value.ref q from r2)
        obtain ⟨jts, rv2, pl2, z2⟩ := I.list s2
        have hb := pl2.isList
        have ef : eqD (.int a) (.lst b) = false := by simp [eqD]
        rw [ef]
        exact ⟨SeqAt.RcAt.int_list a t hb hu, SeqAt.RcNeAt.int_list a t hb hu, SeqAt.EqAt.int_list a t hb hu⟩
      | tup b =>
        have h2k := h2
        rw [Has] at h2
        obtain ⟨q, ys, rfl, s2, l2⟩ := h2
        cases (show v = Value.ref q from r2)
        obtain ⟨jts, rv2, pl2, z2⟩ := I.tuple s2
        have hb : s.heap.IsTuple q jts.toArray := pl2
        have ef : eqD (.int a) (.tup b) = false := by simp [eqD]
        rw [ef]
        exact ⟨SeqAt.RcAt.int_tuple a t hb hu, SeqAt.RcNeAt.int_tuple a t hb hu, SeqAt.EqAt.int_tuple a t hb hu⟩
    | bl a =>
      rw [Has] at h1
      subst h1
      cases r1
      cases e with
      | int b =>
        rw [Has] at h2
        subst h2
        obtain ⟨t', rfl⟩ := r2
        have ef : eqD (.bl a) (.int b) = ((if a then 1 else 0) == b) := by simp [eqD]
        rw [ef]
        exact ⟨SeqAt.RcAt.bool_int a b t', SeqAt.RcNeAt.bool_int a b t', SeqAt.EqAt.bool_int a b t'⟩
      | bl b =>
        rw [Has] at h2
        subst h2
        cases r2
        have ef : eqD (.bl a) (.bl b) = (a == b) := by simp [eqD]
        rw [ef]
        exact ⟨SeqAt.RcAt.bool_bool a b, SeqAt.RcNeAt.bool_bool a b, SeqAt.EqAt.bool_bool a b⟩
      | str b =>
        rw [Has] at h2
        subst h2
        obtain ⟨t', rfl⟩ := r2
        have ef : eqD (.bl a) (.str b) = false := by simp [eqD]
        rw [ef]
        exact ⟨SeqAt.RcAt.bool_str a b t', SeqAt.RcNeAt.bool_str a b t', SeqAt.EqAt.bool_str a b t'⟩
      | non =>
        rw [Has] at h2
        subst h2
        cases r2
        have ef : eqD (.bl a) (.non) = false := by simp [eqD]
        rw [ef]
        exact ⟨SeqAt.RcAt.bool_none a, SeqAt.RcNeAt.bool_none a, SeqAt.EqAt.bool_none a⟩
      | lst b =>
        have h2k := h2
        rw [Has] at h2
        obtain ⟨q, ys, rfl, s2, l2⟩ := h2
        cases (show v = Value.ref q from r2)
        obtain ⟨jts, rv2, pl2, z2⟩ := I.list s2
        have hb := pl2.isList
        have ef : eqD (.bl a) (.lst b) = false := by simp [eqD]
        rw [ef]
        exact ⟨SeqAt.RcAt.bool_list a hb hu, SeqAt.RcNeAt.bool_list a hb hu, SeqAt.EqAt.bool_list a hb hu⟩
      | tup b =>
        have h2k := h2
        rw [Has] at h2
        obtain ⟨q, ys, rfl, s2, l2⟩ := h2
        cases (show v = Value.ref q from r2)
        obtain ⟨jts, rv2, pl2, z2⟩ := I.tuple s2
        have hb : s.heap.IsTuple q jts.toArray := pl2
        have ef : eqD (.bl a) (.tup b) = false := by simp [eqD]
        rw [ef]
        exact ⟨SeqAt.RcAt.bool_tuple a hb hu, SeqAt.RcNeAt.bool_tuple a hb hu, SeqAt.EqAt.bool_tuple a hb hu⟩
    | str a =>
      rw [Has] at h1
      subst h1
      obtain ⟨t, rfl⟩ := r1
      cases e with
      | int b =>
        rw [Has] at h2
        subst h2
        obtain ⟨t', rfl⟩ := r2
        have ef : eqD (.str a) (.int b) = false := by simp [eqD]
        rw [ef]
        exact ⟨SeqAt.RcAt.str_int a t b t', SeqAt.RcNeAt.str_int a t b t', SeqAt.EqAt.str_int a t b t'⟩
      | bl b =>
        rw [Has] at h2
        subst h2
        cases r2
        have ef : eqD (.str a) (.bl b) = false := by simp [eqD]
        rw [ef]
        exact ⟨SeqAt.RcAt.str_bool a t b, SeqAt.RcNeAt.str_bool a t b, SeqAt.EqAt.str_bool a t b⟩
      | str b =>
        rw [Has] at h2
        subst h2
        obtain ⟨t', rfl⟩ := r2
        have ef : eqD (.str a) (.str b) = (a == b) := by simp [eqD]
        rw [ef]
        exact ⟨SeqAt.RcAt.str_str a t b t', SeqAt.RcNeAt.str_str a t b t', SeqAt.EqAt.str_str a t b t'⟩
      | non =>
        rw [Has] at h2
        subst h2
        cases r2
        have ef : eqD (.str a) (.non) = false := by simp [eqD]
        rw [ef]
        exact ⟨SeqAt.RcAt.str_none a t, SeqAt.RcNeAt.str_none a t, SeqAt.EqAt.str_none a t⟩
      | lst b =>
        have h2k := h2
        rw [Has] at h2
        obtain ⟨q, ys, rfl, s2, l2⟩ := h2
        cases (show v = Value.ref q from r2)
        obtain ⟨jts, rv2, pl2, z2⟩ := I.list s2
        have hb := pl2.isList
        have ef : eqD (.str a) (.lst b) = false := by simp [eqD]
        rw [ef]
        exact ⟨SeqAt.RcAt.str_list a t hb hu, SeqAt.RcNeAt.str_list a t hb hu, SeqAt.EqAt.str_list a t hb hu⟩
      | tup b =>
        have h2k := h2
        rw [Has] at h2
        obtain ⟨q, ys, rfl, s2, l2⟩ := h2
        cases (show v = Value.ref q from r2)
        obtain ⟨jts, rv2, pl2, z2⟩ := I.tuple s2
        have hb : s.heap.IsTuple q jts.toArray := pl2
        have ef : eqD (.str a) (.tup b) = false := by simp [eqD]
        rw [ef]
        exact ⟨SeqAt.RcAt.str_tuple a t hb hu, SeqAt.RcNeAt.str_tuple a t hb hu, SeqAt.EqAt.str_tuple a t hb hu⟩
    | non =>
      rw [Has] at h1
      subst h1
      cases r1
      cases e with
      | int b =>
        rw [Has] at h2
        subst h2
        obtain ⟨t', rfl⟩ := r2
        have ef : eqD (.non) (.int b) = false := by simp [eqD]
        rw [ef]
        exact ⟨SeqAt.RcAt.none_int b t', SeqAt.RcNeAt.none_int b t', SeqAt.EqAt.none_int b t'⟩
      | bl b =>
        rw [Has] at h2
        subst h2
        cases r2
        have ef : eqD (.non) (.bl b) = false := by simp [eqD]
        rw [ef]
        exact ⟨SeqAt.RcAt.none_bool b, SeqAt.RcNeAt.none_bool b, SeqAt.EqAt.none_bool b⟩
      | str b =>
        rw [Has] at h2
        subst h2
        obtain ⟨t', rfl⟩ := r2
        have ef : eqD (.non) (.str b) = false := by simp [eqD]
        rw [ef]
        exact ⟨SeqAt.RcAt.none_str b t', SeqAt.RcNeAt.none_str b t', SeqAt.EqAt.none_str b t'⟩
      | non =>
        rw [Has] at h2
        subst h2
        cases r2
        have ef : eqD (.non) (.non) = true := by simp [eqD]
        rw [ef]
        exact ⟨SeqAt.RcAt.none_none , SeqAt.RcNeAt.none_none , SeqAt.EqAt.same _⟩
      | lst b =>
        have h2k := h2
        rw [Has] at h2
        obtain ⟨q, ys, rfl, s2, l2⟩ := h2
        cases (show v = Value.ref q from r2)
        obtain ⟨jts, rv2, pl2, z2⟩ := I.list s2
        have hb := pl2.isList
        have ef : eqD (.non) (.lst b) = false := by simp [eqD]
        rw [ef]
        exact ⟨SeqAt.RcAt.none_list hb hu, SeqAt.RcNeAt.none_list hb hu, SeqAt.EqAt.none_list hb hu⟩
      | tup b =>
        have h2k := h2
        rw [Has] at h2
        obtain ⟨q, ys, rfl, s2, l2⟩ := h2
        cases (show v = Value.ref q from r2)
        obtain ⟨jts, rv2, pl2, z2⟩ := I.tuple s2
        have hb : s.heap.IsTuple q jts.toArray := pl2
        have ef : eqD (.non) (.tup b) = false := by simp [eqD]
        rw [ef]
        exact ⟨SeqAt.RcAt.none_tuple hb hu, SeqAt.RcNeAt.none_tuple hb hu, SeqAt.EqAt.none_tuple hb hu⟩
    | lst a =>
      have h1k := h1
      rw [Has] at h1
      obtain ⟨p, xs, rfl, s1, l1⟩ := h1
      cases (show u = Value.ref p from r1)
      obtain ⟨its, rv1, pl1, z1⟩ := I.list s1
      have hl := pl1.isList
      have hd' : dptL a ≤ n := by rw [dpt] at hd; omega
      cases e with
      | int b =>
        rw [Has] at h2
        subst h2
        obtain ⟨t', rfl⟩ := r2
        have ef : eqD (.lst a) (.int b) = false := by simp [eqD]
        rw [ef]
        exact ⟨SeqAt.RcAt.list_int b t' hl hu, SeqAt.RcNeAt.list_int b t' hl hu, SeqAt.EqAt.list_int b t' hl hu⟩
      | bl b =>
        rw [Has] at h2
        subst h2
        cases r2
        have ef : eqD (.lst a) (.bl b) = false := by simp [eqD]
        rw [ef]
        exact ⟨SeqAt.RcAt.list_bool b hl hu, SeqAt.RcNeAt.list_bool b hl hu, SeqAt.EqAt.list_bool b hl hu⟩
      | str b =>
        rw [Has] at h2
        subst h2
        obtain ⟨t', rfl⟩ := r2
        have ef : eqD (.lst a) (.str b) = false := by simp [eqD]
        rw [ef]
        exact ⟨SeqAt.RcAt.list_str b t' hl hu, SeqAt.RcNeAt.list_str b t' hl hu, SeqAt.EqAt.list_str b t' hl hu⟩
      | non =>
        rw [Has] at h2
        subst h2
        cases r2
        have ef : eqD (.lst a) (.non) = false := by simp [eqD]
        rw [ef]
        exact ⟨SeqAt.RcAt.list_none hl hu, SeqAt.RcNeAt.list_none hl hu, SeqAt.EqAt.list_none hl hu⟩
      | lst b =>
        have h2k := h2
        rw [Has] at h2
        obtain ⟨q, ys, rfl, s2, l2⟩ := h2
        cases (show v = Value.ref q from r2)
        obtain ⟨jts, rv2, pl2, z2⟩ := I.list s2
        have hb := pl2.isList
        have recc := items_eq n (A := A) (by omega) I l1 l2 rv1 rv2 fun d e x y u v hm hm' g1 g2 k1 k2 => (ih A.in1 d e x y u v (Nat.le_trans (dpt_mem hm) hd') (by show A.units + 1 + n < cLine; omega) g1 g2 k1 k2).2.2
        have m1 := l1.len
        have m2 := l2.len
        have v1 := rv1.length
        have v2 := rv2.length
        have self : p = q → eqD (.lst a) (.lst b) = true := fun z => by subst z; rw [Has.inj I h1k h2k]; exact eqD_same _
        have ee : eqD (.lst a) (.lst b) = eqL a b := by rw [eqD]
        by_cases hs : its.toArray.size = jts.toArray.size
        · have hs' : a.length = b.length := by simp at hs; omega
          have hn : its.toArray.size = a.length := by simp; omega
          have k1 := SeqAt.RcAt.lists hl hb hs hu recc
          have k2 := SeqAt.RcNeAt.lists hl hb hs hu recc
          rw [hn, eqL_range a b hs', ← ee] at k1 k2
          exact ⟨k1, k2, eq_of_rc k1 self⟩
        · have hs' : ¬ a.length = b.length := by simp at hs; omega
          have hz : (its.toArray.size != jts.toArray.size) = true := by simpa using hs
          have ef : eqD (.lst a) (.lst b) = false := by rw [ee]; exact Bool.eq_false_iff.mpr fun z => hs' (eqL_len z)
          have k1 := SeqAt.RcAt.lists_lengths hl hb hz hu
          have k2 := SeqAt.RcNeAt.lists_lengths hl hb hz hu
          rw [← ef] at k1
          refine ⟨k1, ?_, eq_of_rc k1 self⟩
          rw [ef]
          exact k2
      | tup b =>
        have h2k := h2
        rw [Has] at h2
        obtain ⟨q, ys, rfl, s2, l2⟩ := h2
        cases (show v = Value.ref q from r2)
        obtain ⟨jts, rv2, pl2, z2⟩ := I.tuple s2
        have hb : s.heap.IsTuple q jts.toArray := pl2
        have ef : eqD (.lst a) (.tup b) = false := by simp [eqD]
        rw [ef]
        exact ⟨SeqAt.RcAt.list_tuple hl hb hu, SeqAt.RcNeAt.list_tuple hl hb hu, SeqAt.EqAt.list_tuple hl hb hu⟩
    | tup a =>
      have h1k := h1
      rw [Has] at h1
      obtain ⟨p, xs, rfl, s1, l1⟩ := h1
      cases (show u = Value.ref p from r1)
      obtain ⟨its, rv1, pl1, z1⟩ := I.tuple s1
      have hl : s.heap.IsTuple p its.toArray := pl1
      have hd' : dptL a ≤ n := by rw [dpt] at hd; omega
      cases e with
      | int b =>
        rw [Has] at h2
        subst h2
        obtain ⟨t', rfl⟩ := r2
        have ef : eqD (.tup a) (.int b) = false := by simp [eqD]
        rw [ef]
        exact ⟨SeqAt.RcAt.tuple_int b t' hl hu, SeqAt.RcNeAt.tuple_int b t' hl hu, SeqAt.EqAt.tuple_int b t' hl hu⟩
      | bl b =>
        rw [Has] at h2
        subst h2
        cases r2
        have ef : eqD (.tup a) (.bl b) = false := by simp [eqD]
        rw [ef]
        exact ⟨SeqAt.RcAt.tuple_bool b hl hu, SeqAt.RcNeAt.tuple_bool b hl hu, SeqAt.EqAt.tuple_bool b hl hu⟩
      | str b =>
        rw [Has] at h2
        subst h2
        obtain ⟨t', rfl⟩ := r2
        have ef : eqD (.tup a) (.str b) = false := by simp [eqD]
        rw [ef]
        exact ⟨SeqAt.RcAt.tuple_str b t' hl hu, SeqAt.RcNeAt.tuple_str b t' hl hu, SeqAt.EqAt.tuple_str b t' hl hu⟩
      | non =>
        rw [Has] at h2
        subst h2
        cases r2
        have ef : eqD (.tup a) (.non) = false := by simp [eqD]
        rw [ef]
        exact ⟨SeqAt.RcAt.tuple_none hl hu, SeqAt.RcNeAt.tuple_none hl hu, SeqAt.EqAt.tuple_none hl hu⟩
      | lst b =>
        have h2k := h2
        rw [Has] at h2
        obtain ⟨q, ys, rfl, s2, l2⟩ := h2
        cases (show v = Value.ref q from r2)
        obtain ⟨jts, rv2, pl2, z2⟩ := I.list s2
        have hb := pl2.isList
        have ef : eqD (.tup a) (.lst b) = false := by simp [eqD]
        rw [ef]
        exact ⟨SeqAt.RcAt.tuple_list hl hb hu, SeqAt.RcNeAt.tuple_list hl hb hu, SeqAt.EqAt.tuple_list hl hb hu⟩
      | tup b =>
        have h2k := h2
        rw [Has] at h2
        obtain ⟨q, ys, rfl, s2, l2⟩ := h2
        cases (show v = Value.ref q from r2)
        obtain ⟨jts, rv2, pl2, z2⟩ := I.tuple s2
        have hb : s.heap.IsTuple q jts.toArray := pl2
        have recc := items_eq n (A := A) (by omega) I l1 l2 rv1 rv2 fun d e x y u v hm hm' g1 g2 k1 k2 => (ih A.in1 d e x y u v (Nat.le_trans (dpt_mem hm) hd') (by show A.units + 1 + n < cLine; omega) g1 g2 k1 k2).2.2
        have m1 := l1.len
        have m2 := l2.len
        have v1 := rv1.length
        have v2 := rv2.length
        have self : p = q → eqD (.tup a) (.tup b) = true := fun z => by subst z; rw [Has.inj I h1k h2k]; exact eqD_same _
        have ee : eqD (.tup a) (.tup b) = eqL a b := by rw [eqD]
        have hn : its.toArray.size = a.length := by simp; omega
        have hn' : jts.toArray.size = b.length := by simp; omega
        have k1 := SeqAt.RcAt.tuples hl hb hu recc
        have k2 := SeqAt.RcNeAt.tuples hl hb hu recc
        rw [hn, hn', all_min_eqL a b, ← ee] at k1 k2
        exact ⟨k1, k2, eq_of_rc k1 self⟩
end
section
variable {X : Cx}
def rEqD (K : PySem.W.Frag) (A : Around) (neg : Bool) : R2 := fun x y H Q => ∃ d e, Has K H d x ∧ Has K H e y ∧ A.units + dpt d < cLine ∧ Q (.bl (if neg then !eqD d e else eqD d e)) H
theorem op_eqD : OpR X (compareOp .Eq) (rEqD X.K X.A false) := by
  intro pins s σ H x y v u Q I rx ry h
  obtain ⟨d, e, h1, h2, hA, q⟩ := h
  exact (eq_deep I (dpt d) X.A d e x y v u (Nat.le_refl _) hA h1 h2 rx ry).1 _ _ _ _ ⟨.bl (eqD d e), H, I, rfl, q⟩
end
end L2

/-! OWN RULES 4: calls of the program's defs by their promises; frames; small lemmas -/
namespace L2
open PySem PySem.Spec PyProof.Rows
/-- the def x, as a call finds it, keeps its promise -/
structure Cal (P : Program) (w : World) (K : PySem.W.Frag) (mg : Str → Option Value) (base : Heap) (k : Nat) (x : Str) (ps : List Str) (sp : Sp) : Prop where
  ex : ∃ (f : Addr) (fd : FuncData), FnOk P w K mg base CX0 k f fd ps sp ∧ mg x = some (.ref f) ∧ PySem.W.keepIn K (.ref f) = true ∧ Binds K fd ps []
theorem pe_def {X : Cx} {j k : Nat} {x : Str} {ps : List Str} {sp : Sp} {e : Expr} {es : List Expr} {t : TA} {p pos : Pos} (D : Cal X.prog X.w X.K X.mg X.base j x ps sp) (hr : Room k X.A) (hg : Gl X x) (ha : PA X (e :: es) t) (hjk : j ≤ k := by omega) (hdb : (x == ("__debug__" : Str)) = false := by decide)
    (he : starEach (e :: es) X.env = (false, eval e X.env) :: starEach es X.env := by rfl) (hpl : (backTo pos (starEach es X.env)).any (·.1) = false := by rfl) : PE X (.Call (.Name x p) (e :: es) [] pos) (tCall sp [] E0 t) := by
  obtain ⟨f, fd, F, hm, hk, hb⟩ := D.ex
  exact pe_call F (hr.mono hjk) hg hm hk hb .nil pass0 ha hdb he hpl
/-- a def of the text, as the top left it -/
structure Dfn (K : PySem.W.Frag) (mg : Str → Option Value) (x : Str) (st : Stmt) (ps : List Str) : Prop where
  ex : ∃ (f : Addr) (fd : FuncData), Fun K x x st f fd ∧ mg x = some (.ref f) ∧ Binds K fd ps []
theorem Dfn.cal {P : Program} {w : World} {K : PySem.W.Frag} {mg : Str → Option Value} {base : Heap} {k : Nat} {x : Str} {st : Stmt} {ps : List Str} {sp : Sp} (D : Dfn K mg x st ps) (h : ∀ f fd, Fun K x x st f fd → FnOk P w K mg base CX0 k f fd ps sp) : Cal P w K mg base k x ps sp := by
  obtain ⟨f, fd, F, hm, hb⟩ := D.ex
  exact ⟨f, fd, h f fd F, hm, F.kp, hb⟩

/-! ### heaps -/
theorem Same.rfl' {H : Hp} : Same H H := fun _ _ e => e
theorem Same.trans' {H H1 H2 : Hp} (a : Same H H1) (b : Same H1 H2) : Same H H2 := fun c o e => b c o (a c o e)
theorem same_new {H : Hp} {p : Addr} (h : H p = none) (o : HO) : Same H (upd H p o) := fun b u q => by rw [upd_ne (ne_of_none q h)]; exact q
theorem Same.none {H H' : Hp} (a : Same H H') {p : Addr} (h : H' p = none) : H p = none := by
  cases e : H p with
  | none => rfl
  | some o => rw [a p o e] at h; cases h
/-- all but a and c is as it was -/
def Kp (a c : Addr) (H H' : Hp) : Prop := ∀ b o, H b = some o → b ≠ a → b ≠ c → H' b = some o
theorem Kp.same {a c : Addr} {H H' : Hp} (h : Same H H') : Kp a c H H' := fun b o e _ _ => h b o e
theorem Kp.trans {a c : Addr} {H H1 H2 : Hp} (h : Kp a c H H1) (g : Kp a c H1 H2) : Kp a c H H2 := fun b o e n1 n2 => g b o (h b o e n1 n2) n1 n2
/-! ### an item -/
theorem ixN_int {n : Nat} {i : Int} (h0 : 0 ≤ i) (h1 : i < (n : Int)) : ixN n i = some i.toNat := by
  unfold ixN
  rw [if_pos h0, if_pos h1]
theorem atI_int {α : Type} {xs : List α} {i : Int} {v : α} (h0 : 0 ≤ i) (hv : xs[i.toNat]? = some v) : atI xs i = some v := by
  have h1 : i.toNat < xs.length := (List.getElem?_eq_some_iff.mp hv).1
  unfold atI
  rw [ixN_int h0 (by omega)]
  exact hv
/-- an item of a list of ints, at a place that is reckoned -/
theorem atI_ints {ns : List Int} {i : Int} (h0 : 0 ≤ i) (h1 : i < (ns.length : Int)) : atI (ns.map V.int) i = some (.int (ns.getD i.toNat 0)) := by
  have h2 : i.toNat < ns.length := by omega
  refine atI_int h0 ?_
  rw [List.getElem?_map, List.getElem?_eq_getElem h2, List.getD_eq_getElem?_getD, List.getElem?_eq_getElem h2]
  rfl
theorem rIx_sq {K : PySem.W.Frag} {b : Bool} {H : Hp} {p : Addr} {xs : List V} {i : Int} {v : V} {Q : VK} (h : SqG b K H p xs) (hv : atI xs i = some v) (q : Q v H) : rIx K (.ref p) (.int i) H Q := by
  cases b with
  | true => exact .inr (.inl ⟨p, xs, i, v, rfl, rfl, h, hv, q⟩)
  | false => exact .inl ⟨p, xs, i, v, rfl, rfl, h, hv, q⟩
theorem iteBF {A B : Prop} {b : Bool} (hb : b = false) (h : B) : if b = true then A else B := by rw [hb]; exact iteF h
theorem iteBT {A B : Prop} {b : Bool} (hb : b = true) (h : A) : if b = true then A else B := by rw [hb]; exact iteT h
theorem qtrue {Q : VK} {b : Bool} {H : Hp} (hb : b = true) (q : Q (.bl true) H) : Q (.bl b) H := by rw [hb]; exact q
theorem iteB {A B : Prop} {b : Bool} (h1 : b = true → A) (h2 : b = false → B) : if b = true then A else B := by
  cases b with
  | true => exact iteT (h1 rfl)
  | false => exact iteF (h2 rfl)
end L2

/-! OWN RULES 5: comprehensions whose items are data; data of tuples alone outlives every change -/
namespace L2
open PySem PySem.Spec PyProof.Rows
/-- what is a tuple stays -/
def isT : HO → Bool
  | .tup _ => true
  | .frz _ (.tup _) => true
  | _ => false
def TSame (H H' : Hp) : Prop := ∀ b o, H b = some o → isT o = true → H' b = some o
theorem Same.t {H H' : Hp} (h : Same H H') : TSame H H' := fun b o e _ => h b o e
theorem TSame.trans {H H1 H2 : Hp} (h : TSame H H1) (g : TSame H1 H2) : TSame H H2 := fun b o e t => g b o (h b o e t) t
theorem tsame_upd {H : Hp} {p : Addr} {o o' : HO} (h : H p = some o) (ht : isT o = false) : TSame H (upd H p o') := fun b u e t => by
  have n : b ≠ p := fun z => by
    subst z
    rw [h] at e
    cases e
    rw [ht] at t
    cases t
  rw [upd_ne n]
  exact e
mutual
def tupO : Dt → Bool
  | .lst _ => false
  | .tup ds => tupOL ds
  | _ => true
def tupOL : List Dt → Bool
  | [] => true
  | d :: r => tupO d && tupOL r
end
theorem SqT.tsame {K : PySem.W.Frag} {H H' : Hp} {a : Addr} {xs : List V} (e : TSame H H') (h : SqT K H a xs) : SqT K H' a xs := by
  rcases h with (h | ⟨o, h⟩) | h
  · exact .inl (.inl (e _ _ h rfl))
  · exact .inl (.inr ⟨o, e _ _ h rfl⟩)
  · exact .inr h
mutual
theorem Has.tsame {K : PySem.W.Frag} {H H' : Hp} (e : TSame H H') : ∀ {d : Dt} {v : V}, tupO d = true → Has K H d v → Has K H' d v
  | .int i, v, _, h => by rw [Has] at h ⊢; exact h
  | .bl i, v, _, h => by rw [Has] at h ⊢; exact h
  | .str i, v, _, h => by rw [Has] at h ⊢; exact h
  | .non, v, _, h => by rw [Has] at h ⊢; exact h
  | .lst ds, v, t, h => by simp [tupO] at t
  | .tup ds, v, t, h => by
    rw [tupO] at t
    rw [Has] at h ⊢
    obtain ⟨a, xs, hv, hs, hl⟩ := h
    exact ⟨a, xs, hv, SqT.tsame e hs, HasL.tsame e t hl⟩
theorem HasL.tsame {K : PySem.W.Frag} {H H' : Hp} (e : TSame H H') : ∀ {ds : List Dt} {xs : List V}, tupOL ds = true → HasL K H ds xs → HasL K H' ds xs
  | [], xs, _, h => by rw [HasL] at h ⊢; exact h
  | d :: r, xs, t, h => by
    rw [tupOL, Bool.and_eq_true] at t
    rw [HasL] at h ⊢
    obtain ⟨x, t', hx, h1, h2⟩ := h
    exact ⟨x, t', hx, Has.tsame e t.1 h1, HasL.tsame e t.2 h2⟩
end
theorem tupOL_of {ds : List Dt} (h : ∀ d ∈ ds, tupO d = true) : tupOL ds = true := by
  induction ds with
  | nil => rw [tupOL]
  | cons d r ih => rw [tupOL, h d List.mem_cons_self, ih fun x hx => h x (List.mem_cons_of_mem _ hx)]; rfl
theorem tupO_ints (ns : List Int) : tupO (.tup (di ns)) = true := by
  rw [tupO]
  refine tupOL_of fun d hd => ?_
  obtain ⟨n, _, rfl⟩ := List.mem_map.mp hd
  simp [tupO]
theorem filter_succ {d : Nat → Dt} (keep : Nat → Bool) (i : Nat) : ((List.range (i + 1)).filter keep).map d = ((List.range i).filter keep).map d ++ (if keep i = true then [d i] else []) := by
  rw [List.range_succ, List.filter_append, List.map_append]
  cases h : keep i <;> simp [h]
/-- THE RULE: a comprehension over n items, the i-th kept if keep i, its value then d i -/
theorem comp_gen {K : PySem.W.Frag} {J : It} {fr : List (Option Nat)} {g : Shared → Hp → List Addr → TG} {tt : Shared → Hp → List Addr → TT} {te : Shared → Hp → List Addr → TE} {σ : St} {H1 : Hp} {Q : VK} (Ok : St → Prop) (n : Nat) (hn : n < sizeLine) (d : Nat → Dt) (keep : Nat → Bool) (hd : ∀ i, tupO (d i) = true) (h0 : Ok (compSt fr σ))
    (hgo : ∀ i H', Same H1 H' → i < n → J.go i H') (hst : ∀ H', Same H1 H' → J.stop n H')
    (turn : ∀ s3 H3' fp i σ' H', i < n → Ok σ' → Same H1 H' → ∀ x H2, J.yld i H' x H2 → ∀ (Nx : St → Hp → Prop) (Ap : St → V → Hp → Prop), (keep i = false → ∀ σ2 H4, Ok σ2 → Same H' H4 → Nx σ2 H4) → (keep i = true → ∀ σ2 v H5, Ok σ2 → Same H' H5 → Has K H5 (d i) v → Ap σ2 v H5) →
      g s3 H3' fp x σ' H2 fun σ2 H3 => tt s3 H3' fp σ2 H3 fun b H4 => if b = true then te s3 H3' fp σ2 H4 (fun v H5 => Ap σ2 v H5) else Nx σ2 H4)
    (fin : ∀ p acc H', H1 p = none → Same H1 H' → H' p = some (.lst acc) → HasL K H' (((List.range n).filter keep).map d) acc → Q (.ref p) H') :
    CompB J fr g tt te σ H1 Q := by
  intro p hp s3 H3' fp
  have tall : ∀ i, tupOL (((List.range i).filter keep).map d) = true := fun i => tupOL_of fun x hx => by
    obtain ⟨j, _, rfl⟩ := List.mem_map.mp hx
    exact hd j
  refine ⟨fun i m σ' H' => m = n - i ∧ i ≤ n ∧ Ok σ' ∧ Same H1 H' ∧ ∃ acc, H' p = some (.lst acc) ∧ HasL K H' (((List.range i).filter keep).map d) acc, ⟨n, by simp, Nat.zero_le _, h0, same_new hp _, [], upd_same, hasL_nil⟩, ?_⟩
  rintro i m σ' H' ⟨rfl, hi, ok, sm, acc, hacc, hl⟩
  by_cases hlt : i < n
  · refine .inr ⟨hgo i H' sm hlt, fun x H2 hy => ?_⟩
    refine turn s3 H3' fp i σ' H' hlt ok sm x H2 hy (fun σ2 H4 => ∃ m', m' < n - i ∧ m' = n - (i + 1) ∧ i + 1 ≤ n ∧ Ok σ2 ∧ Same H1 H4 ∧ ∃ acc, H4 p = some (.lst acc) ∧ HasL K H4 (((List.range (i + 1)).filter keep).map d) acc) (fun σ2 v H5 => _) (fun hk σ2 H4 ok2 s4 => ?_) (fun hk σ2 v H5 ok2 s5 hv => ?_)
    · refine ⟨n - (i + 1), by omega, rfl, hlt, ok2, sm.trans' s4, acc, s4 _ _ hacc, ?_⟩
      rw [filter_succ, hk]
      simpa using HasL.same s4 hl
    · have h5 : H5 p = some (.lst acc) := s5 _ _ hacc
      have len : acc.length ≤ i := by
        have e := hl.len
        have e2 : (((List.range i).filter keep).map d).length ≤ i := by
          rw [List.length_map]
          exact Nat.le_trans (List.length_filter_le _ _) (by rw [List.length_range]; exact Nat.le_refl _)
        omega
      have ts : TSame H5 (upd H5 p (.lst (acc ++ [v]))) := tsame_upd h5 rfl
      refine ⟨acc, h5, by omega, n - (i + 1), by omega, rfl, hlt, ok2, fun b o e => ?_, acc ++ [v], upd_same, ?_⟩
      · rw [upd_ne (ne_of_none e hp)]
        exact s5 b o (sm b o e)
      · rw [filter_succ, hk]
        exact HasL.append (HasL.tsame ts (tall i) (HasL.same s5 hl)) (hasL_cons (Has.tsame ts (hd i) hv) hasL_nil)
  · have e : i = n := by omega
    subst e
    exact .inl ⟨hst H' sm, fin p acc H' hp sm hacc hl⟩
/-- .. in a def: the tables are closed terms -/
theorem pe_compF {X : Cx} {N ps : List Str} {esc : Scope} (S : FnScope N ps esc) (N' : List Str) (fr : List (Option Nat)) (nd : N'.Nodup) {elt target iter : Expr} {ifs : List Expr} {sc : Scope} {pos : Pos} {wi : TI} {g : Shared → Hp → List Addr → TG} {tt : Shared → Hp → List Addr → TT} {te : Shared → Hp → List Addr → TE} (C : compOk N esc sc N' fr = true)
    (hi : PI X target iter wi) (hg : ∀ s3 H3 fp, PG (cxComp X N' sc s3 H3 fp) target (g s3 H3 fp)) (ht : ∀ s3 H3 fp, PTs (cxComp X N' sc s3 H3 fp) ifs (tt s3 H3 fp)) (he : ∀ s3 H3 fp, PE (cxComp X N' sc s3 H3 fp) elt (te s3 H3 fp))
    (hc : X.calm = true := by rfl) (hN : X.N = N := by rfl) (hS : X.env.scope = esc := by rfl) (hs : ∀ x, foldedSetIterable iter X.env x = pure x := by intro _; rfl) : PE X (.ListComp elt [⟨target, iter, ifs, 0⟩] sc pos) (tComp wi fr g tt te) :=
  pe_comp N' fr hc (by rw [hN, hS]; exact C) hi hg ht he hs
theorem yes_then {σ : St} {H : Hp} {A B : Hp → Prop} (h : A H) : tYes σ H (fun b H4 => if b = true then A H4 else B H4) := by
  unfold tYes
  exact iteT h
theorem gname_yes {i : Nat} {v : V} {σ : St} {H : Hp} {A B : St → Hp → Prop} (h : A (σ.set i (some v)) H) : gName i v σ H (fun σ2 H3 => tYes σ2 H3 (fun b H4 => if b = true then A σ2 H4 else B σ2 H4)) := by
  unfold gName tYes
  exact iteT h
/-- the bools of a list -/
theorem bools_hasL {K : PySem.W.Frag} {H : Hp} : ∀ {bs : List Bool} {xs : List V}, HasL K H (bs.map Dt.bl) xs → xs = bools bs
  | [], xs, h => by
    have h : HasL K H [] xs := h
    rw [HasL] at h; exact h
  | n :: r, xs, h => by
    have h : HasL K H (Dt.bl n :: r.map Dt.bl) xs := h
    rw [HasL] at h
    obtain ⟨x, t, rfl, h1, h2⟩ := h
    rw [Has] at h1
    rw [h1, bools_hasL h2]
    rfl
/-! iterables -/
def Its (K : PySem.W.Frag) (b : Bool) (a : Addr) : It := match b with
  | true => Itt K a
  | false => Itl K a
def iSq (K : PySem.W.Frag) (tl : TE) : TI := fun σ H R => tl σ H fun x H1 => ∃ b a xs, x = .ref a ∧ SqG b K H1 a xs ∧ R (Its K b a) H1
theorem pi_seq {X : Cx} {tg l : Expr} {tl : TE} (hl : PE X l tl) : PI X tg l (iSq X.K tl) := by
  intro pins s σ H R I h
  refine thn (hl pins s σ H _ I h) fun v s1 ⟨x, H1, I1, r1, q1⟩ => ?_
  obtain ⟨b, a, xs, rfl, hq, q⟩ := q1
  cases r1
  cases b with
  | true =>
    obtain ⟨its, rv, p, hz⟩ := I1.tuple hq
    refine wpAny_pyIter_tuple (show s1.heap.IsTuple a its.toArray from p) ⟨s1.heap.objs.size, [s1.heap.objs.size], _, _, H1, rfl, I1.kept (t' := s1.toks) fun b o e => Heap.get?_push_of_some _ e, turn_tuple a _, ⟨_, Heap.get?_push_size _ rfl, rfl, rfl⟩, fun b hb => ?_, q⟩
    have e : b = s1.heap.objs.size := by simpa using hb
    subst e
    exact I1.fpOk (Nat.le_refl _) (I1.hok.fresh (Nat.le_refl _))
  | false =>
    obtain ⟨its, rv, p, hz⟩ := I1.list hq
    refine wpAny_pyIter_list p.isList ⟨s1.heap.objs.size, [s1.heap.objs.size], _, _, H1, rfl, I1.kept (t' := s1.toks) fun b o e => Heap.get?_push_of_some _ e, turn_list a _, ⟨_, Heap.get?_push_size _ rfl, rfl, rfl⟩, fun b hb => ?_, q⟩
    have e : b = s1.heap.objs.size := by simpa using hb
    subst e
    exact I1.fpOk (Nat.le_refl _) (I1.hok.fresh (Nat.le_refl _))
theorem its_yld {K : PySem.W.Frag} {b : Bool} {a : Addr} {xs : List V} {H1 H' H2 : Hp} {i : Nat} {v : V} (h1 : SqG b K H1 a xs) (s : Same H1 H') (h : (Its K b a).yld i H' v H2) : H2 = H' ∧ xs[i]? = some v := by
  cases b with
  | true => exact ⟨h.1, h.2 xs (SqG.same s h1)⟩
  | false => exact ⟨h.1, h.2 xs (SqG.same s h1)⟩
theorem its_go {K : PySem.W.Frag} {b : Bool} {a : Addr} {xs : List V} {H1 : Hp} (h1 : SqG b K H1 a xs) {n : Nat} (hx : xs.length = n) : ∀ i H', Same H1 H' → i < n → (Its K b a).go i H' := fun i H' s hi => by
  cases b with
  | true => exact ⟨xs, xs[i]'(by omega), SqT.same s h1, List.getElem?_eq_getElem _⟩
  | false => exact ⟨xs, xs[i]'(by omega), SqL.same s h1, List.getElem?_eq_getElem _⟩
theorem its_stop {K : PySem.W.Frag} {b : Bool} {a : Addr} {xs : List V} {H1 : Hp} (h1 : SqG b K H1 a xs) {n : Nat} (hx : xs.length = n) : ∀ H', Same H1 H' → (Its K b a).stop n H' := fun H' s => by
  cases b with
  | true => exact ⟨xs, SqT.same s h1, by omega⟩
  | false => exact ⟨xs, SqL.same s h1, by omega⟩

theorem itz_go {K : PySem.W.Frag} {b1 b2 : Bool} {a1 a2 : Addr} {xs ys : List V} {H1 : Hp} (h1 : SqG b1 K H1 a1 xs) (h2 : SqG b2 K H1 a2 ys) {n : Nat} (hx : xs.length = n) (hy : ys.length = n) : ∀ i H', Same H1 H' → i < n → (Itz K b1 a1 b2 a2).go i H' := fun i H' s hi =>
  ⟨xs, ys, xs[i]'(by omega), ys[i]'(by omega), SqG.same s h1, SqG.same s h2, List.getElem?_eq_getElem _, List.getElem?_eq_getElem _⟩
theorem itz_stop {K : PySem.W.Frag} {b1 b2 : Bool} {a1 a2 : Addr} {xs ys : List V} {H1 : Hp} (h1 : SqG b1 K H1 a1 xs) (h2 : SqG b2 K H1 a2 ys) {n : Nat} (hx : xs.length = n) (hy : ys.length = n) : ∀ H', Same H1 H' → (Itz K b1 a1 b2 a2).stop n H' := fun H' s =>
  ⟨xs, ys, SqG.same s h1, SqG.same s h2, .inl (by omega)⟩
theorem itz_yld {K : PySem.W.Frag} {b1 b2 : Bool} {a1 a2 : Addr} {xs ys : List V} {H1 H' H2 : Hp} {i : Nat} {v : V} (h1 : SqG b1 K H1 a1 xs) (h2 : SqG b2 K H1 a2 ys) (s : Same H1 H') (h : (Itz K b1 a1 b2 a2).yld i H' v H2) :
    ∃ p x y, v = .ref p ∧ Same H' H2 ∧ H2 p = some (.tup [x, y]) ∧ xs[i]? = some x ∧ ys[i]? = some y := by
  obtain ⟨p, x, y, hp, rfl, rfl, g1, g2⟩ := h
  exact ⟨p, x, y, rfl, same_new hp _, upd_same, g1 xs (SqG.same s h1), g2 ys (SqG.same s h2)⟩
end L2

/-! OWN RULES 6: what is new, with the heap behind it as a letter -/
namespace L2
open PySem PySem.Spec PyProof.Rows
/-- a new object o, and what is wanted then -/
def New (o : HO) (H : Hp) (Q : VK) : Prop := ∀ p H', H p = none → Same H H' → H' p = some o → Q (.ref p) H'
theorem New.at {o : HO} {H : Hp} {Q : VK} (h : New o H Q) {p : Addr} (hp : H p = none) : Q (.ref p) (upd H p o) := h p _ hp (same_new hp o) upd_same
section
variable {X : Cx} {es : List Expr} {t : TA} {pos : Pos}
def tTupA (t : TA) : TE := fun σ H Q => t σ H fun xs H1 => xs.length ≤ sizeLine ∧ New (.tup xs) H1 Q
def tLstA (t : TA) : TE := fun σ H Q => t σ H fun xs H1 => xs.length ≤ sizeLine ∧ New (.lst xs) H1 Q
theorem pe_tupA {x1} (h : PA X es t) : PE X (.Tuple es x1 pos) (tTupA t) := by
  intro pins s σ H Q I hq
  refine wpAny_Tuple_spliced (thn (h pos pins s σ H _ I hq) fun us s1 ⟨xs, H1, I1, r, z, q⟩ => ⟨by rw [← r.length]; exact z, ?_⟩)
  refine ⟨.ref s1.heap.objs.size, upd H1 s1.heap.objs.size (.tup xs), I1.laid (t' := s1.toks) (fun b u e => Heap.get?_push_of_some _ e) (Nat.le_refl _) ⟨z, us, r, ⟨_, Heap.get?_push_size _ rfl, rfl, _, rfl⟩⟩, rfl, q.at (I1.hok.fresh (Nat.le_refl _))⟩
theorem pe_lstA (h : PA X es t) : PE X (.List es pos) (tLstA t) := by
  intro pins s σ H Q I hq
  refine wpAny_List_spliced (thn (h pos pins s σ H _ I hq) fun us s1 ⟨xs, H1, I1, r, z, q⟩ => ⟨by rw [← r.length]; exact z, ?_⟩)
  refine ⟨.ref s1.heap.objs.size, upd H1 s1.heap.objs.size (.lst xs), I1.laid (t' := s1.toks) (fun b u e => Heap.get?_push_of_some _ e) (Nat.le_refl _) ⟨z, us, 0, r, Heap.get?_push_size _ rfl⟩, rfl, q.at (I1.hok.fresh (Nat.le_refl _))⟩
theorem CallR.imp {f : Value} {r r' : List V → Hp → VK → Prop} (h : CallR X f r) (k : ∀ vs H Q, r' vs H Q → r vs H Q) : CallR X f r' := fun pins s σ H xs us Q I rv q => h pins s σ H xs us Q I rv (k _ _ _ q)
theorem OpR.imp {f : Value → Value → Sem Value} {r r' : R2} (h : OpR X f r) (k : ∀ x y H Q, r' x y H Q → r x y H Q) : OpR X f r' := fun pins s σ H x y v u Q I rx ry q => h pins s σ H x y v u Q I rx ry (k _ _ _ _ q)
/-- list(xs), tuple(xs) of a list or a tuple -/
theorem call_listA : CallR X (.type "list") (fun xs H Q => ∃ b p ys, xs = [.ref p] ∧ SqG b X.K H p ys ∧ New (.lst ys) H Q) := call_list_of.imp fun vs H Q ⟨b, p, ys, e, h, q⟩ => by
  refine ⟨p, ys, e, ?_, fun l hl => q.at hl⟩
  cases b with
  | true => exact .inr h
  | false => exact .inl h
/-- tuple(xs) of a list or a tuple -/
theorem call_tupleG : CallR X (.type "tuple") (fun xs H Q => ∃ b p ys, xs = [.ref p] ∧ SqG b X.K H p ys ∧ ∀ q H', Same H H' → SqT X.K H' q ys → Q (.ref q) H') := call_tuple_of.imp fun vs H Q ⟨b, p, ys, e, h, q⟩ => by
  cases b with
  | true => exact ⟨p, ys, e, .inr ⟨h, q p H .rfl' h⟩⟩
  | false => exact ⟨p, ys, e, .inl ⟨h, fun l hl => q l _ (same_new hl _) (SqT.of upd_same)⟩⟩
/-- len of a list or a tuple -/
theorem call_lenA : CallR X (.builtin "len") (fun xs H Q => ∃ b p ys, xs = [.ref p] ∧ SqG b X.K H p ys ∧ Q (.int ys.length) H) := call_len_seq.imp fun vs H Q ⟨b, p, ys, e, h, q⟩ => by
  refine ⟨p, ys, e, ?_, q⟩
  cases b with
  | true => exact .inr h
  | false => exact .inl h
/-- an item of a list or a tuple -/
def rIxG (K : PySem.W.Frag) : R2 := fun x y H Q => ∃ b p xs i v, x = .ref p ∧ y = .int i ∧ SqG b K H p xs ∧ atI xs i = some v ∧ Q v H
theorem ix_G : IxR X (rIxG X.K) := fun value slice pins s σ H x y v u Q I rx ry ⟨b, p, xs, i, z, e1, e2, hq, ha, q⟩ hs => by
  subst e1 e2
  exact ix_seq value slice pins s σ H (.ref p) (.int i) v u Q I rx ry (rIx_sq hq ha q) hs
end
end L2

/-! OWN RULES 7: min and max, three comparisons in a row, slices, lists put together -/
namespace L2
open PySem PySem.Spec PyProof.Rows
def IsMin (ns : List Int) (r : Int) : Prop := r ∈ ns ∧ ∀ x ∈ ns, r ≤ x
def IsMax (ns : List Int) (r : Int) : Prop := r ∈ ns ∧ ∀ x ∈ ns, x ≤ r
theorem IsMin.one {ns : List Int} {r s : Int} (a : IsMin ns r) (b : IsMin ns s) : r = s := by
  have := a.2 s b.1
  have := b.2 r a.1
  omega
theorem IsMax.one {ns : List Int} {r s : Int} (a : IsMax ns r) (b : IsMax ns s) : r = s := by
  have := a.2 s b.1
  have := b.2 r a.1
  omega
/-- a list of ints as the library's pairs -/
theorem vals_toks : ∀ {ns : List Int} {us : List Value}, Vals (ns.map V.int) us → ∃ ps : List (Int × Tok), us = ps.map (fun p => Value.int p.1 p.2) ∧ ps.map (·.1) = ns
  | [], _, .nil => ⟨[], rfl, rfl⟩
  | n :: r, _, .cons h t => by
    obtain ⟨ps, e1, e2⟩ := vals_toks t
    obtain ⟨tk, e⟩ := h
    exact ⟨(n, tk) :: ps, by rw [e, e1]; rfl, by rw [← e2]; rfl⟩
theorem numAt_at {ps : List (Int × Tok)} {ns : List Int} (e : ps.map (·.1) = ns) {i : Nat} (hi : i < ns.length) : numAt ps.toArray i = ns[i] := by
  subst e
  have h2 : i < ps.length := by simpa using hi
  simp [numAt, h2]
section
variable {X : Cx}
theorem call_minL (hc : X.calm = true) : CallR X (.builtin "min") (fun xs H Q => ∃ a ns, xs = [.ref a] ∧ SqL X.K H a (ns.map V.int) ∧ ns ≠ [] ∧ ∀ r, IsMin ns r → Q (.int r) H) := by
  intro pins s σ H xs us Q I r h
  obtain ⟨a, ns, rfl, hq, hne, q⟩ := h
  obtain ⟨u, rfl, ru⟩ := vals1 r
  cases ru
  obtain ⟨its, rv, p, z⟩ := I.list hq
  obtain ⟨ps, e1, e2⟩ := vals_toks rv
  subst e1
  have hl : s.heap.IsList a (intItems ps.toArray) := by
    have e : intItems ps.toArray = (ps.map fun p => Value.int p.1 p.2).toArray := by simp [intItems]
    rw [e]; exact p.isList
  have hlen : ps.length = ns.length := by rw [← e2]; simp
  have hpos : 0 < ns.length := Nat.pos_of_ne_zero fun z => hne (List.eq_nil_of_length_eq_zero z)
  refine min_intList (I.ok.hd hc) hl (by simp; omega) fun v h' tk hv hk => ?_
  obtain ⟨tv, rfl⟩ := intItems_at hv
  obtain ⟨b1, b2⟩ := argBest_lt (numAt ps.toArray) (ps.toArray.size - 1)
  have hi : argBest (fun i j => decide (numAt ps.toArray i < numAt ps.toArray j)) (ps.toArray.size - 1) < ns.length := by simp at b1 ⊢; omega
  refine ⟨.int _, H, I.kept (t' := tk) hk, ⟨tv, rfl⟩, q _ ⟨?_, fun x hx => ?_⟩⟩
  · rw [numAt_at e2 hi]; exact List.getElem_mem hi
  · obtain ⟨j, hj, rfl⟩ := List.mem_iff_getElem.mp hx
    have := b2 j (by simp; omega)
    rw [numAt_at e2 hj] at this
    exact this
theorem call_maxL (hc : X.calm = true) : CallR X (.builtin "max") (fun xs H Q => ∃ a ns, xs = [.ref a] ∧ SqL X.K H a (ns.map V.int) ∧ ns ≠ [] ∧ ∀ r, IsMax ns r → Q (.int r) H) := by
  intro pins s σ H xs us Q I r h
  obtain ⟨a, ns, rfl, hq, hne, q⟩ := h
  obtain ⟨u, rfl, ru⟩ := vals1 r
  cases ru
  obtain ⟨its, rv, p, z⟩ := I.list hq
  obtain ⟨ps, e1, e2⟩ := vals_toks rv
  subst e1
  have hl : s.heap.IsList a (intItems ps.toArray) := by
    have e : intItems ps.toArray = (ps.map fun p => Value.int p.1 p.2).toArray := by simp [intItems]
    rw [e]; exact p.isList
  have hlen : ps.length = ns.length := by rw [← e2]; simp
  have hpos : 0 < ns.length := Nat.pos_of_ne_zero fun z => hne (List.eq_nil_of_length_eq_zero z)
  refine max_intList (I.ok.hd hc) hl (by simp; omega) fun v h' tk hv hk => ?_
  obtain ⟨tv, rfl⟩ := intItems_at hv
  obtain ⟨b1, b2⟩ := argBest_gt (numAt ps.toArray) (ps.toArray.size - 1)
  have hi : argBest (fun i j => decide (numAt ps.toArray i > numAt ps.toArray j)) (ps.toArray.size - 1) < ns.length := by simp at b1 ⊢; omega
  refine ⟨.int _, H, I.kept (t' := tk) hk, ⟨tv, rfl⟩, q _ ⟨?_, fun x hx => ?_⟩⟩
  · rw [numAt_at e2 hi]; exact List.getElem_mem hi
  · obtain ⟨j, hj, rfl⟩ := List.mem_iff_getElem.mp hx
    have := b2 j (by simp; omega)
    rw [numAt_at e2 hj] at this
    exact this
theorem call_max3 (hc : X.calm = true) : CallR X (.builtin "max") (fun xs H Q => ∃ i j k, xs = [.int i, .int j, .int k] ∧ ∀ r, i ≤ r → j ≤ r → k ≤ r → (r = i ∨ r = j ∨ r = k) → Q (.int r) H) := by
  intro pins s σ H xs us Q I r h
  obtain ⟨i, j, k, rfl, q⟩ := h
  cases r with
  | cons r1 rr =>
    cases rr with
    | cons r2 rr =>
      cases rr with
      | cons r3 rr =>
        cases rr
        obtain ⟨t1, rfl⟩ := r1
        obtain ⟨t2, rfl⟩ := r2
        obtain ⟨t3, rfl⟩ := r3
        refine max_three_ints (I.ok.hd hc) fun h' tk hk => ?_
        have fin : ∀ (r : Int) (t : Tok), i ≤ r → j ≤ r → k ≤ r → (r = i ∨ r = j ∨ r = k) → EP X pins σ Q (.int r t) { s with heap := h', toks := tk } := fun r t a b c d => ⟨.int r, H, I.kept (t' := tk) hk, ⟨t, rfl⟩, q r a b c d⟩
        split
        · split
          · exact fin _ _ (by omega) (by omega) (by omega) (by omega)
          · exact fin _ _ (by omega) (by omega) (by omega) (by omega)
        · split
          · exact fin _ _ (by omega) (by omega) (by omega) (by omega)
          · exact fin _ _ (by omega) (by omega) (by omega) (by omega)
theorem call_min3 (hc : X.calm = true) : CallR X (.builtin "min") (fun xs H Q => ∃ i j k, xs = [.int i, .int j, .int k] ∧ ∀ r, r ≤ i → r ≤ j → r ≤ k → (r = i ∨ r = j ∨ r = k) → Q (.int r) H) := by
  intro pins s σ H xs us Q I r h
  obtain ⟨i, j, k, rfl, q⟩ := h
  cases r with
  | cons r1 rr =>
    cases rr with
    | cons r2 rr =>
      cases rr with
      | cons r3 rr =>
        cases rr
        obtain ⟨t1, rfl⟩ := r1
        obtain ⟨t2, rfl⟩ := r2
        obtain ⟨t3, rfl⟩ := r3
        refine min_three_ints (I.ok.hd hc) fun h' tk hk => ?_
        have fin : ∀ (r : Int) (t : Tok), r ≤ i → r ≤ j → r ≤ k → (r = i ∨ r = j ∨ r = k) → EP X pins σ Q (.int r t) { s with heap := h', toks := tk } := fun r t a b c d => ⟨.int r, H, I.kept (t' := tk) hk, ⟨t, rfl⟩, q r a b c d⟩
        split
        · split
          · exact fin _ _ (by omega) (by omega) (by omega) (by omega)
          · exact fin _ _ (by omega) (by omega) (by omega) (by omega)
        · split
          · exact fin _ _ (by omega) (by omega) (by omega) (by omega)
          · exact fin _ _ (by omega) (by omega) (by omega) (by omega)
end
section
variable {X : Cx} {a b c d : Expr} {ta tb tc td : TE} {pos : Pos}
theorem op_catA : OpR X (binaryOp .Add) (fun x y H Q => ∃ l b xs zs, x = .ref l ∧ y = .ref b ∧ H l = some (.lst xs) ∧ H b = some (.lst zs) ∧ xs.length + zs.length ≤ sizeLine ∧ New (.lst (xs ++ zs)) H Q) := op_cat.imp fun x y H Q ⟨l, b, xs, zs, e1, e2, h1, h2, hz, q⟩ => ⟨l, b, xs, zs, e1, e2, h1, h2, hz, fun p hp => q.at hp⟩
end
end L2
namespace L2
open PySem PySem.Spec PyProof.Rows
theorem map_getD {α β : Type} (l : List α) (d : α) (f : α → β) : (List.range l.length).map (fun i => f (l.getD i d)) = l.map f := by
  apply List.ext_getElem
  · simp
  · intro i h1 h2
    have h3 : i < l.length := by simpa using h2
    simp [List.getD_eq_getElem?_getD, h3]
theorem filter_tt (n : Nat) : (List.range n).filter (fun _ => true) = List.range n := by simp
/-- [te for x in xs], xs a list or a tuple -/
theorem comp_seq {K : PySem.W.Frag} {b : Bool} {a : Addr} {xs : List V} {frs : List (Option Nat)} {te : Shared → Hp → List Addr → TE} {σ : St} {H1 : Hp} {Q : VK} (hq : SqG b K H1 a xs) (hn : xs.length < sizeLine) (d : Nat → Dt) (hd : ∀ i, tupO (d i) = true)
    (he : ∀ s3 H3' fp i v H', xs[i]? = some v → Same H1 H' → ∀ Ap : V → Hp → Prop, (∀ u H5, Same H' H5 → Has K H5 (d i) u → Ap u H5) → te s3 H3' fp (some v :: compSt frs σ) H' Ap)
    (fin : ∀ p acc H', H1 p = none → Same H1 H' → H' p = some (.lst acc) → HasL K H' ((List.range xs.length).map d) acc → Q (.ref p) H') :
    CompB (Its K b a) (none :: frs) (fun _ _ _ => gName 0) (fun _ _ _ => tYes) te σ H1 Q := by
  refine comp_gen (K := K) (fun σ' => ∃ z, σ' = z :: compSt frs σ) xs.length hn d (fun _ => true) hd ⟨none, rfl⟩ (its_go hq rfl) (its_stop hq rfl) ?_ ?_
  · rintro s3 H3' fp i σ' H' hi ⟨z, rfl⟩ sm v H2 hy Nx Ap _ hA
    obtain ⟨rfl, hv⟩ := its_yld hq sm hy
    refine gname_yes ?_
    exact he s3 H3' fp i v _ hv sm _ fun u H5 s5 hu => hA rfl _ u H5 ⟨_, rfl⟩ s5 hu
  · intro p acc H' hp sm hacc hl
    rw [filter_tt] at hl
    exact fin p acc H' hp sm hacc hl
/-- two names from a pair -/
theorem gpair_yes {K : PySem.W.Frag} {p : Addr} {x y : V} {σ : St} {H : Hp} {A B : St → Hp → Prop} (hp : SqT K H p [x, y]) (h : A ((σ.set 0 (some x)).set 1 (some y)) H) :
    gTup K 2 (gCons (gName 0) (gCons (gName 1) gNil)) (.ref p) σ H (fun σ2 H3 => tYes σ2 H3 (fun b H4 => if b = true then A σ2 H4 else B σ2 H4)) := by
  refine ⟨p, [x, y], rfl, hp, rfl, x, [y], rfl, y, [], rfl, rfl, ?_⟩
  unfold tYes
  exact iteT h
/-- [te for x, y in zip(xs, ys)] of as many -/
theorem comp_zip {K : PySem.W.Frag} {b1 b2 : Bool} {a1 a2 : Addr} {xs ys : List V} {frs : List (Option Nat)} {te : Shared → Hp → List Addr → TE} {σ : St} {H1 : Hp} {Q : VK} (h1 : SqG b1 K H1 a1 xs) (h2 : SqG b2 K H1 a2 ys) (hl : ys.length = xs.length) (hn : xs.length < sizeLine) (d : Nat → Dt) (hd : ∀ i, tupO (d i) = true)
    (he : ∀ s3 H3' fp i x y H', xs[i]? = some x → ys[i]? = some y → Same H1 H' → ∀ Ap : V → Hp → Prop, (∀ u H5, Same H' H5 → Has K H5 (d i) u → Ap u H5) → te s3 H3' fp (some x :: some y :: compSt frs σ) H' Ap)
    (fin : ∀ p acc H', H1 p = none → Same H1 H' → H' p = some (.lst acc) → HasL K H' ((List.range xs.length).map d) acc → Q (.ref p) H') :
    CompB (Itz K b1 a1 b2 a2) (none :: none :: frs) (fun _ _ _ => gTup K 2 (gCons (gName 0) (gCons (gName 1) gNil))) (fun _ _ _ => tYes) te σ H1 Q := by
  refine comp_gen (K := K) (fun σ' => ∃ z z', σ' = z :: z' :: compSt frs σ) xs.length hn d (fun _ => true) hd ⟨none, none, rfl⟩ (itz_go h1 h2 rfl hl) (itz_stop h1 h2 rfl hl) ?_ ?_
  · rintro s3 H3' fp i σ' H' hi ⟨z, z', rfl⟩ sm v H2 hy Nx Ap _ hA
    obtain ⟨p, x, y, rfl, sm2, hp, hx, hy⟩ := itz_yld h1 h2 sm hy
    refine gpair_yes (SqT.of hp) ?_
    exact he s3 H3' fp i x y H2 hx hy (sm.trans' sm2) _ fun u H5 s5 hu => hA rfl _ u H5 ⟨_, _, rfl⟩ (sm2.trans' s5) hu
  · intro p acc H' hp sm hacc hl'
    rw [filter_tt] at hl'
    exact fin p acc H' hp sm hacc hl'
theorem hasL_intsOf {K : PySem.W.Frag} {H : Hp} {n : Nat} {f : Nat → Int} {acc : List V} (h : HasL K H ((List.range n).map fun i => Dt.int (f i)) acc) : acc = ((List.range n).map f).map V.int := by
  have e : ((List.range n).map fun i => Dt.int (f i)) = di ((List.range n).map f) := by unfold di; rw [List.map_map]; rfl
  rw [e] at h
  exact ints_hasL h
theorem hasL_boolsOf {K : PySem.W.Frag} {H : Hp} {n : Nat} {f : Nat → Bool} {acc : List V} (h : HasL K H ((List.range n).map fun i => Dt.bl (f i)) acc) : acc = bools ((List.range n).map f) := by
  have e : ((List.range n).map fun i => Dt.bl (f i)) = ((List.range n).map f).map Dt.bl := by rw [List.map_map]; rfl
  rw [e] at h
  exact bools_hasL h
end L2
namespace L2
open PySem PySem.Spec PyProof.Rows
end L2
namespace L2
open PySem PySem.Spec PyProof.Rows
/-- the object at p is another now -/
structure Put (H : Hp) (p : Addr) (o : HO) (H' : Hp) : Prop where
  at_ : H' p = some o
  else_ : ∀ b, b ≠ p → H' b = H b
theorem Put.up {H : Hp} {p : Addr} {o : HO} : Put H p o (upd H p o) := ⟨upd_same, fun b h => upd_ne h⟩
theorem Put.keep {H H' : Hp} {p b : Addr} {o u : HO} (h : Put H p o H') (e : H b = some u) (n : b ≠ p) : H' b = some u := by rw [h.else_ b n]; exact e
theorem Put.t {H H' : Hp} {p : Addr} {o o' : HO} (h : Put H p o H') (e : H p = some o') (ht : isT o' = false) : TSame H H' := fun b u q t => by
  refine h.keep q fun z => ?_
  subst z
  rw [e] at q
  cases q
  rw [ht] at t
  cases t
section
variable {X : Cx}
end
end L2

/-! OWN RULES 8: x = [..], and comprehensions by an invariant of one's own -/
namespace L2
open PySem PySem.Spec PyProof.Rows
section
variable {M : Model} {A : Around} {E : Value → Shared → Prop} {s : Shared} {env : Env}
end
section
variable {X : Cx}
theorem MtM.imp {id : String} {r r' : V → List V → Hp → VK → Prop} (h : MtM X id r) (k : ∀ x xs H Q, r' x xs H Q → r x xs H Q) : MtM X id r' := fun pins s σ H x xs v us Q I r1 r2 q => h pins s σ H x xs v us Q I r1 r2 (k _ _ _ _ q)
theorem mt_extendA : MtM X "list.extend" (fun x vs H Q => ∃ l b xs zs, x = .ref l ∧ vs = [.ref b] ∧ H l = some (.lst xs) ∧ H b = some (.lst zs) ∧ xs.length + zs.length ≤ sizeLine ∧ ∀ H', Put H l (.lst (xs ++ zs)) H' → Q .non H') := mt_extend.imp fun x vs H Q ⟨l, b, xs, zs, e1, e2, h1, h2, hz, q⟩ => ⟨l, b, xs, zs, e1, e2, h1, h2, hz, q _ Put.up⟩
end
end L2

namespace L2
open PySem PySem.Spec PyProof.Rows
section
variable {X : Cx} {a e k : Expr} {ta te tk : TE} {pos p2 : Pos}
end
end L2

/-! OWN RULES: enumerate of a list or a tuple as a loop's iterable -/
namespace ZG
open PySem
section
variable {prog : Program} {w : World} {A : Around} {E : Value → Shared → Prop} {s : Shared}
end
end ZG
namespace L2
open PySem PySem.Spec PyProof.Rows
end L2

/-! OWN RULES: t + u of any two tuples; a tuple times an int of 2 and more -/
namespace ZG
open PySem
open Sem (wp)
open Builtin
end ZG
namespace L2
open PySem PySem.Spec PyProof.Rows
section
variable {X : Cx}
end
end L2

/-! OWN RULES: dicts whose keys are tuples: dict([..]), and walked -/
namespace ZG
open PySem
open Sem (wp)
section
variable {prog : Program} {w : World} {A : Around} {E : Value → Shared → Prop} {s : Shared}
/-- for k in d: the dict's own object is known -/
theorem dIter {d : Addr} {o : Obj} {es : Array DictEntry} {ep : Nat} {Q : Value → Shared → Prop} (hd : (d == sysModules) = false) (ho : s.heap.get? d = some o) (hc : o.ExactDict) (hdat : o.data = .dict es ep)
    (hQ : Q (.ref s.heap.objs.size) { s with heap := s.heap.push { cls := .type "dict_keyiterator", data := .fields #[.ref d, .int 0 0, .int es.size 0, .int ep 0] } }) : wpAny (model prog w) A (pyIter (.ref d)) Q E s := by
  have hT : s.TypeIs (.ref d) "dict" := ⟨o, ho, hc.1⟩
  refine wpAny_pyIter_slot hT F.slot_dict_iter (wpAny_call_entry F.slot_dict_iter hT F.entry_dict_iter ?_ (F.args_dict_iter_1 _))
  unfold Builtin.«dict.__iter__» Builtin.Dict.dictSlotNone
  refine wpAny_bind (wpAny_bind (wpAny_notOrdered_dict hT (show wpAny _ _ (pure (Value.ref d)) _ _ s from wpAny_pure (show wpAny _ _ (Builtin.Dict.showsAll d >>= _) _ _ s from ?_))))
  unfold Builtin.Dict.showsAll
  rw [if_neg (by rw [hd]; exact Bool.false_ne_true)]
  exact wpAny_bind (wpAny_pure (wpAny_bind (wpAny_dictEntries ho hdat (wpAny_bind (wpAny_dictEpoch ho hdat (wpAny_bind (wpAny_newObj_type (wpAny_pure ⟨_, rfl, "dict_keyiterator", _, ⟨_, Heap.get?_push_size _ rfl, rfl⟩, F.slot_dict_keyiterator_next.lookup, by simpa [rawInt] using hQ⟩))))))))
theorem dNext {it d : Addr} {i ep : Nat} {o : Obj} {es : Array DictEntry} {e : DictEntry} {Q : Option Value → Shared → Prop} (hit : s.heap.IsKeyIter it d i es.size ep) (hod : s.heap.get? d = some o) (hdd : o.data = .dict es ep) (hx : es[i]? = some e)
    (hQ : ∀ h', h'.IsKeyIter it d (i + 1) es.size ep → Heap.SameBut it s.heap h' → Q (some e.key) { s with heap := h' }) : wpAny (model prog w) A (pyNext (.ref it)) Q E s := by
  obtain ⟨oi, ho, hc, hd⟩ := id hit
  unfold pyNext
  refine wpAny_bind (wpAny_attempt (wpAny_callSpecial?_slot (name := Str.ofString "__next__") hit.typeIs F.slot_dict_keyiterator_next (wpAny_call_entry F.slot_dict_keyiterator_next hit.typeIs F.entry_dict_keyiterator_next ?_ (F.args_dict_keyiterator_next_1 _))))
  refine wpAny_bind (wpAny_pure (wpAny_bind (wpAny_bind ?_)))
  refine wpAny_bind (wpAny_typeNameOfWhole_keyiter hit.typeIs (wpAny_pure (wpAny_bind (wpAny_fieldsOf ho hd ?_))))
  simp only [show Builtin.Dict_items.ownsTuple "dict_keyiterator" = false by decide, Bool.false_eq_true, if_false]
  show wpAny _ _ (if (Value.ref d == Value.none) = true then _ else _) _ _ s
  rw [if_neg (show ¬ (Value.ref d == Value.none) = true from fun z => Bool.false_ne_true z)]
  refine wpAny_bind (wpAny_pure (wpAny_bind (wpAny_dictEntries hod hdd ?_)))
  rw [if_neg (show ¬ _ by simp)]
  refine wpAny_bind (wpAny_pure (wpAny_bind (wpAny_dictEpoch hod hdd ?_)))
  rw [if_neg (show ¬ _ by simp)]
  refine wpAny_pure ?_
  simp only [show ¬ (i : Int) < 0 by omega, if_false, Int.toNat_natCast, hx]
  refine wpAny_bind (wpAny_bind (wpAny_typeNameOfWhole_keyiter hit.typeIs (wpAny_pure (wpAny_bind (wpAny_isOneOf_keyiter hit.typeIs ?_)))))
  show wpAny _ _ (setField (.ref it) 1 (rawInt ((i : Int) + 1)) >>= _) _ _ s
  refine wpAny_bind (wpAny_setField ho hd (by simp) ?_)
  have hit' : (s.heap.update it (Obj.mapFields (·.setIfInBounds 1 (rawInt ((i : Int) + 1))))).IsKeyIter it d (i + 1) es.size ep :=
    ⟨_, Heap.get?_update_self _ ho (Obj.isFreed_of_fields (Obj.data_mapFields hd _)), (Obj.cls_mapFields ..).trans hc, by rw [Obj.data_mapFields hd]; simp [rawInt]⟩
  exact wpAny_bind (wpAny_holding (wpAny_bind (wpAny_isOneOf_keyiter (s := { s with heap := s.heap.update it (Obj.mapFields (·.setIfInBounds 1 (rawInt ((i : Int) + 1)))) }) hit'.typeIs (show wpAny _ _ (pure e.key) _ _ _ from wpAny_pure (wpAny_pure ⟨_, rfl, wpAny_pure (hQ _ hit' (Heap.SameBut.update ..))⟩)))))
theorem dEnd {it d : Addr} {i ep : Nat} {o : Obj} {es : Array DictEntry} {Q : Option Value → Shared → Prop} (hh : A.handled = none) (hit : s.heap.IsKeyIter it d i es.size ep) (hod : s.heap.get? d = some o) (hdd : o.data = .dict es ep) (hx : es[i]? = none)
    (hQ : ∀ h', Heap.ExtBut it s.heap h' → Q none { s with heap := h' }) : wpAny (model prog w) A (pyNext (.ref it)) Q E s := by
  obtain ⟨oi, ho, hc, hd⟩ := id hit
  unfold pyNext
  refine wpAny_bind (wpAny_attempt (wpAny_callSpecial?_slot (name := Str.ofString "__next__") hit.typeIs F.slot_dict_keyiterator_next (wpAny_call_entry F.slot_dict_keyiterator_next hit.typeIs F.entry_dict_keyiterator_next ?_ (F.args_dict_keyiterator_next_1 _))))
  refine wpAny_bind (wpAny_pure (wpAny_bind (wpAny_bind ?_)))
  refine wpAny_bind (wpAny_typeNameOfWhole_keyiter hit.typeIs (wpAny_pure (wpAny_bind (wpAny_fieldsOf ho hd ?_))))
  simp only [show Builtin.Dict_items.ownsTuple "dict_keyiterator" = false by decide, Bool.false_eq_true, if_false]
  show wpAny _ _ (if (Value.ref d == Value.none) = true then _ else _) _ _ s
  rw [if_neg (show ¬ (Value.ref d == Value.none) = true from fun z => Bool.false_ne_true z)]
  refine wpAny_bind (wpAny_pure (wpAny_bind (wpAny_dictEntries hod hdd ?_)))
  rw [if_neg (show ¬ _ by simp)]
  refine wpAny_bind (wpAny_pure (wpAny_bind (wpAny_dictEpoch hod hdd ?_)))
  rw [if_neg (show ¬ _ by simp)]
  refine wpAny_pure ?_
  simp only [show ¬ (i : Int) < 0 by omega, if_false, Int.toNat_natCast, hx]
  refine wpAny_bind (wpAny_bind (wpAny_typeNameOfWhole_keyiter hit.typeIs (wpAny_pure ?_)))
  show wpAny _ _ (setField (.ref it) 0 .none >>= _) _ _ s
  refine wpAny_bind (wpAny_setField ho hd (by simp) (show wpAny _ _ (newExc (.type "StopIteration") [] >>= _) _ _ _ from wpAny_bind ?_))
  simp only [newExc, newTuple]
  refine wpAny_bind (wpAny_newObj_type (wpAny_bind (m := firstArgMember _ _) (wpAny_of_eq (a := Value.none) (by first | rfl | (simp only [firstArgMember]; rfl)) (wpAny_newObj_type ?_ (by size_fits)))) (by size_fits))
  simp only [raiseNew]
  refine wpAny_bind (wpAny_handled ?_)
  rw [show A.in1.handled = none from hh]
  refine wpAny_bind (wpAny_pure (wpAny_throw ?_))
  refine wpAny_bind (wpAny_isInstance (T := "StopIteration") (b := true) (by exact ⟨_, Heap.get?_push_size _ rfl, rfl⟩) isSubtype_stop (wpAny_pure ?_))
  exact hQ _ (((Heap.SameBut.update ..).extBut.push _).push _)
end
end ZG
namespace ZG
open PySem
open Sem (wp)
section
variable {prog : Program} {w : World} {Kk : Type} [DecidableEq Kk] {knd : KeyKind prog w Kk} {A : Around} {E : Value → Shared → Prop} {R : Result → Shared → Prop} {s : Shared}
end
end ZG
namespace ZG
open PySem
open Sem (wp)
section
variable {prog : Program} {w : World} {A : Around} {E : Value → Shared → Prop} {s : Shared}
end
end ZG
namespace ZG
open PySem
open Sem (wp)
section
variable {prog : Program} {w : World} {Kk : Type} [DecidableEq Kk] {knd : KeyKind prog w Kk} {A : Around} {E : Value → Shared → Prop} {s : Shared}
end
end ZG

namespace L2
open PySem PySem.Spec PyProof.Rows
/-- keys of whole numbers -/
def kI (ns : List Int) : List Key := ns.map Sum.inl
theorem kI_V (ns : List Int) : (kI ns).map kV = ns.map V.int := by
  unfold kI
  rw [List.map_map]
  rfl
theorem kI_inj {ns ms : List Int} (h : kI ns = kI ms) : ns = ms := (List.map_inj_right fun _ _ z => Sum.inl.inj z).mp h
section
variable {X : Cx} {pins : List (Addr × Obj)} {σ : St} {H : Hp} {s : Shared}
end
/-! ### for k in d -/
def Itd (o : Obj) (d : Addr) : It :=
  ⟨fun i H => ∃ kvs, H d = some (.frz o (.dT kvs)) ∧ i < kvs.length,
   fun i H v H' => H' = H ∧ ∀ kvs, H d = some (.frz o (.dT kvs)) → ∃ k x b, kvs[i]? = some (k, x) ∧ v = .ref b ∧ H b = some (.tup (k.map kV)),
   fun i H => ∃ kvs, H d = some (.frz o (.dT kvs)) ∧ kvs.length ≤ i⟩
theorem paired_get {α β : Type} {F : α → β → Prop} : ∀ {l : List α} {m : List β} {i : Nat} {b : β}, Paired F l m → m[i]? = some b → ∃ a, l[i]? = some a ∧ F a b
  | _, _, _, _, .nil, e => by simp at e
  | _, _, 0, _, .cons h t, e => by
    simp only [List.getElem?_cons_zero, Option.some.injEq] at e
    subst e
    exact ⟨_, rfl, h⟩
  | _, _, i + 1, _, .cons h t, e => by
    simp only [List.getElem?_cons_succ] at e ⊢
    exact paired_get t e
theorem frz_raw {X : Cx} {pins : List (Addr × Obj)} {σ : St} {H : Hp} {s : Shared} {o : Obj} {d : Addr} {kvs : List (List Key × V)} (I : Inv X pins σ H s) (e : H d = some (.frz o (.dT kvs))) :
    s.heap.get? d = some o ∧ (d == sysModules) = false ∧ ∃ xs es ep, KT H kvs xs ∧ o.ExactDict ∧ o.data = .dict es ep ∧ es.toList = xs.map (entryOfKey (tupleKind (mixKind X.prog X.w))) ∧ es.size = kvs.length := by
  obtain ⟨h0, h1, h2, xs, kt, o', es, ep, g1, g2, g3, g4, g5⟩ := (show ObjOk X.prog X.w H s.heap d (.frz o (.dT kvs)) from I.hok d _ e)
  rw [h0] at g1
  cases g1
  refine ⟨h0, h2, xs, es, ep, kt, g2, g3, g4, ?_⟩
  rw [← Array.length_toList, g4, List.length_map]
  exact (Paired.length kt).symm
theorem turn_dict {P : Program} {w : World} {K : PySem.W.Frag} {tg : Expr} (o : Obj) (d it : Addr) (es : Array DictEntry) (ep : Nat) (hdat : o.data = .dict es ep) : Turn P w K tg (Itd o d) [it] it (fun i h => h.IsKeyIter it d i es.size ep) where
  mem := by simp
  obj := fun i h st b hb => by
    have e : b = it := by simpa using hb
    subst e
    obtain ⟨oi, q1, q2, q3⟩ := st
    exact ⟨oi, q1, fun v z => by rw [q3] at z; cases z⟩
  keep := fun i h h' st k => st.at fun oo e => k it (by simp) oo e
  item := by
    intro X hP hw hK hc i pins s σ H E I hf st hg
    subst hP hw hK
    obtain ⟨kvs, hq, hx⟩ := hg
    obtain ⟨h0, h1, xs, es', ep', kt, g2, g3, g4, g5⟩ := frz_raw I hq
    rw [hdat] at g3
    cases g3
    obtain ⟨f0, f1, f2, f3, f4, f5⟩ := hf it (by simp)
    have hi : i < es.size := by omega
    have hxs : i < xs.length := by rw [← Array.length_toList, g4, List.length_map] at hi; exact hi
    have he : es[i]? = some (entryOfKey (tupleKind (mixKind X.prog X.w)) xs[i]) := by
      rw [← Array.getElem?_toList, g4, List.getElem?_map, List.getElem?_eq_getElem hxs]
      rfl
    refine ZG.dNext st h0 hdat he fun h' st' sb => ?_
    have I1 : Inv X pins σ H { s with heap := h' } := I.turned (t' := s.toks) (fun b ob hb e => (sb.2 b hb).trans e) f0 f1 f3 f4 f5
    obtain ⟨oi, q1, q2, q3⟩ := id st'
    refine ⟨_, rfl, go_of (s := { s with heap := h' }) q1 q2 q3 (by decide) ⟨.ref xs[i].2.1, H, I1, rfl, ⟨rfl, fun kvs' hk' => ?_⟩, st', fun b hb => (hf b hb).1⟩⟩
    rw [hq] at hk'
    cases hk'
    obtain ⟨p, p1, p2, p3, p4⟩ := paired_get kt (List.getElem?_eq_getElem hxs)
    exact ⟨p.1, p.2, _, p1, rfl, p3⟩
  done := by
    intro X hP hw hK hc i pins s σ H E I hf st hg
    subst hP hw hK
    obtain ⟨kvs, hq, hx⟩ := hg
    obtain ⟨h0, h1, xs, es', ep', kt, g2, g3, g4, g5⟩ := frz_raw I hq
    rw [hdat] at g3
    cases g3
    obtain ⟨f0, f1, f2, f3, f4, f5⟩ := hf it (by simp)
    exact ZG.dEnd (I.ok.hd hc) st h0 hdat (by rw [Array.getElem?_eq_none]; omega) fun h' eb => ⟨rfl, I.turned (t' := s.toks) (fun b ob hb e => eb b ob hb e) f0 f1 f3 f4 f5⟩
  self := fun _ _ _ _ _ st h => wpAny_pyIter_keyiter st h
/-- for k in d; from then on d is not written any more -/
def iDict (te : TE) : TI := fun σ H R => te σ H fun x H1 => ∃ d kvs, x = .ref d ∧ ((H1 d = some (.dT kvs) ∧ ∀ o H2, Put H1 d (.frz o (.dT kvs)) H2 → R (Itd o d) H2) ∨ ∃ o, H1 d = some (.frz o (.dT kvs)) ∧ R (Itd o d) H1)
theorem pi_dict {X : Cx} {tg l : Expr} {tl : TE} (hl : PE X l tl) : PI X tg l (iDict tl) := by
  intro pins s σ H R I h
  refine thn (hl pins s σ H _ I h) fun v s1 ⟨x, H1, I1, r1, q1⟩ => ?_
  obtain ⟨d, kvs, e, q1⟩ := q1
  subst e
  cases r1
  have key : ∀ (o : Obj) (H2 : Hp), Inv X pins σ H2 s1 → H2 d = some (.frz o (.dT kvs)) → R (Itd o d) H2 → wpAny (model X.prog X.w) X.A (pyIter (.ref d)) (PIE X pins σ tg R) X.xe s1 := fun o H2 I2 e2 q2 => by
    obtain ⟨h0, h1, xs, es, ep, kt, g2, g3, g4, g5⟩ := frz_raw I2 e2
    refine ZG.dIter h1 h0 g2 g3 ⟨s1.heap.objs.size, [s1.heap.objs.size], _, _, H2, rfl, I2.kept (t' := s1.toks) fun b ob z => Heap.get?_push_of_some _ z, turn_dict o d _ es ep g3, ⟨_, Heap.get?_push_size _ rfl, rfl, rfl⟩, fun b hb => ?_, q2⟩
    have e : b = s1.heap.objs.size := by simpa using hb
    subst e
    exact I2.fpOk (Nat.le_refl _) (I2.hok.fresh (Nat.le_refl _))
  rcases q1 with ⟨e1, q⟩ | ⟨o, e1, q⟩
  · obtain ⟨z, hd, xs, kt, o, es, ep, g1, g2, g3, g4, g5⟩ := (show ObjOk X.prog X.w H1 s1.heap d (.dT kvs) from I1.hok d _ e1)
    refine key o (upd H1 d (.frz o (.dT kvs))) ?_ upd_same (q o _ Put.up)
    refine d_write (h' := s1.heap) (t' := s1.toks) (ob := .frz o (.dT kvs)) I1 (by rw [e1]; exact True.intro) ⟨rfl, fun _ _ => rfl⟩ ⟨o, g1⟩ ⟨g1, z, hd, xs, KT.keeps kt fun c zs ec => ?_, o, es, ep, g1, g2, g3, g4, g5⟩
    rw [upd_ne (ne_of ec e1 (fun z => nomatch z))]
    exact ec
  · exact key o H1 I1 e1 q
theorem itd_yld {o : Obj} {d : Addr} {kvs : List (List Key × V)} {H H2 : Hp} {i : Nat} {v : V} (e : H d = some (.frz o (.dT kvs))) (h : (Itd o d).yld i H v H2) : H2 = H ∧ ∃ k x b, kvs[i]? = some (k, x) ∧ v = .ref b ∧ H b = some (.tup (k.map kV)) := ⟨h.1, h.2 kvs e⟩
end L2

namespace ZS
open PySem PyProof.Rows
def gal : Bool → Keyed → Array Keyed → Nat → Nat → Nat → StateT SortSt Sem (Option Nat) := sortPriv% PySem.Builtin.gallop
def mLo : Array Keyed → Array Keyed → StateT SortSt Sem (Array Keyed) := sortPriv% PySem.Builtin.mergeLo
def mHi : Array Keyed → Array Keyed → StateT SortSt Sem (Array Keyed) := sortPriv% PySem.Builtin.mergeHi
def bey (lf : Bool) (ky : Keyed) (ar : Array Keyed) (b0 i : Nat) : StateT SortSt Sem (Option Bool) := do
  let xx ← elem' ar (b0 + i)
  if lf then lt' xx ky else return (← lt' ky xx).map (!·)
def galLast (lf : Bool) (ky : Keyed) (ar : Array Keyed) (b0 n l0 h0 : Nat) : StateT SortSt Sem (Option Nat) := do
  let mut l := l0
  let mut h := h0
  for _ in [0:n] do
    if l ≥ h then break
    let m := l + (h - l) / 2
    let some mo ← bey lf ky ar b0 m | return none
    if mo then l := m + 1 else h := m
  return some h
def galUp (lf : Bool) (ky : Keyed) (ar : Array Keyed) (b0 n h0 : Nat) : StateT SortSt Sem (Option Nat) := do
  let mut la := 0
  let mut of := 1
  for _ in [0:n] do
    if of ≥ n - h0 then break
    let some mo ← bey lf ky ar b0 (h0 + of) | return none
    if !mo then break
    la := of
    of := 2 * of + 1
  galLast lf ky ar b0 n (h0 + la + 1) (h0 + min of (n - h0))
def galDown (lf : Bool) (ky : Keyed) (ar : Array Keyed) (b0 n h0 : Nat) : StateT SortSt Sem (Option Nat) := do
  let mut la := 0
  let mut of := 1
  for _ in [0:n] do
    if of ≥ h0 + 1 then break
    let some fo ← bey lf ky ar b0 (h0 - of) | return none
    if fo then break
    la := of
    of := 2 * of + 1
  galLast lf ky ar b0 n (h0 + 1 - min of (h0 + 1)) (h0 - la)
theorem gal_eq (lf : Bool) (ky : Keyed) (ar : Array Keyed) (b0 n h0 : Nat) : gal lf ky ar b0 n h0 = (do
  let some rt ← bey lf ky ar b0 h0 | return none
  if rt then galUp lf ky ar b0 n h0 else galDown lf ky ar b0 n h0) := rfl
section
variable {M : Model} {A : Around} {E : Value → Shared → Prop} {s : Shared}
/-- gallop finds how many are beyond, wherever it begins -/
theorem wp_gal {lf : Bool} {ky : Keyed} {ar : Array Keyed} {b0 n h0 : Nat} {st : SortSt} {Q : Option Nat → SortSt → Prop} {bd : Nat → Bool} (hh : h0 < n) (hb : ∀ (i : Nat) (R : Option Bool → SortSt → Prop), i < n → R (some (bd i)) st → wpS M A E s (bey lf ky ar b0 i) R st)
    (mono : ∀ i j, i ≤ j → j < n → bd j = true → bd i = true) (h : ∀ k, k ≤ n → (∀ i, i < k → bd i = true) → (∀ i, k ≤ i → i < n → bd i = false) → Q (some k) st) : wpS M A E s (gal lf ky ar b0 n h0) Q st := by
  rw [gal_eq]
  have last : ∀ (l hi : Nat), l ≤ hi → hi ≤ n → (∀ i, i < l → bd i = true) → (∀ i, hi ≤ i → i < n → bd i = false) → wpS M A E s (galLast lf ky ar b0 n l hi) Q st := fun l hi h1 h2 h3 h4 => by
    unfold galLast
    dsimp only
    refine wpS_bind (wpS_forRange (I := fun x c st' => st' = st ∧ ∃ l hi, c = (none, l, hi) ∧ l ≤ hi ∧ hi ≤ n ∧ hi - l ≤ n - x ∧ (∀ i, i < l → bd i = true) ∧ (∀ i, hi ≤ i → i < n → bd i = false)) ?_ ?_ ⟨rfl, l, hi, rfl, h1, h2, by omega, h3, h4⟩)
    · rintro x c st' _ hx ⟨rfl, l, hi, rfl, g1, g2, g3, g4, g5⟩
      dsimp only
      by_cases z : l ≥ hi
      · rw [if_pos z]
        have e : l = hi := by omega
        subst e
        exact wpS_pure (wpS_pure (h l g2 g4 g5))
      · rw [if_neg z]
        refine wpS_bind (hb _ _ (by omega) ?_)
        dsimp only
        cases e : bd (l + (hi - l) / 2) with
        | true =>
          simp only [if_true]
          exact wpS_pure ⟨rfl, _, _, rfl, by omega, g2, by omega, fun i hi' => mono i _ (by omega) (by omega) e, g5⟩
        | false =>
          simp only [Bool.false_eq_true, if_false]
          refine wpS_pure ⟨rfl, _, _, rfl, by omega, by omega, by omega, g4, fun i h1 h2 => ?_⟩
          cases e2 : bd i with
          | false => rfl
          | true => rw [mono _ i h1 h2 e2] at e; cases e
    · rintro c st' ⟨rfl, l, hi, rfl, g1, g2, g3, g4, g5⟩
      have e : l = hi := by omega
      subst e
      exact wpS_pure (h l g2 g4 g5)
  refine wpS_bind (hb _ _ hh ?_)
  dsimp only
  cases e0 : bd h0 with
  | true =>
    simp only [if_true]
    unfold galUp
    dsimp only
    refine wpS_bind (wpS_forRange (I := fun x c st' => st' = st ∧ ∃ la of, c = (none, la, of) ∧ la < of ∧ x + 1 ≤ of ∧ h0 + la < n ∧ bd (h0 + la) = true) ?_ ?_ ⟨rfl, 0, 1, rfl, by omega, by omega, by omega, e0⟩)
    · rintro x c st' _ hx ⟨rfl, la, of, rfl, g1, g2, g3, g4⟩
      dsimp only
      by_cases z : of ≥ n - h0
      · rw [if_pos z]
        exact wpS_pure (last (h0 + la + 1) (h0 + min of (n - h0)) (by omega) (by omega) (fun i hi => mono i _ (by omega) g3 g4) (fun i h1 h2 => by omega))
      · rw [if_neg z]
        refine wpS_bind (hb _ _ (by omega) ?_)
        dsimp only
        cases e : bd (h0 + of) with
        | false =>
          simp only [Bool.not_false, if_true]
          refine wpS_pure (last (h0 + la + 1) (h0 + min of (n - h0)) (by omega) (by omega) (fun i hi => mono i _ (by omega) g3 g4) (fun i h1 h2 => ?_))
          cases e2 : bd i with
          | false => rfl
          | true => rw [mono (h0 + of) i (by omega) h2 e2] at e; cases e
        | true =>
          simp only [Bool.not_true, Bool.false_eq_true, if_false]
          exact wpS_pure ⟨rfl, _, _, rfl, by omega, by omega, by omega, e⟩
    · rintro c st' ⟨rfl, la, of, rfl, g1, g2, g3, g4⟩
      exact last (h0 + la + 1) (h0 + min of (n - h0)) (by omega) (by omega) (fun i hi => mono i _ (by omega) g3 g4) (fun i h1 h2 => by omega)
  | false =>
    simp only [Bool.false_eq_true, if_false]
    unfold galDown
    dsimp only
    refine wpS_bind (wpS_forRange (I := fun x c st' => st' = st ∧ ∃ la of, c = (none, la, of) ∧ la < of ∧ x + 1 ≤ of ∧ la ≤ h0 ∧ bd (h0 - la) = false) ?_ ?_ ⟨rfl, 0, 1, rfl, by omega, by omega, by omega, e0⟩)
    · rintro x c st' _ hx ⟨rfl, la, of, rfl, g1, g2, g3, g4⟩
      have lo : ∀ i, h0 - la ≤ i → i < n → bd i = false := fun i h1 h2 => by
        cases e2 : bd i with
        | false => rfl
        | true => rw [mono (h0 - la) i h1 h2 e2] at g4; cases g4
      dsimp only
      by_cases z : of ≥ h0 + 1
      · rw [if_pos z]
        exact wpS_pure (last (h0 + 1 - min of (h0 + 1)) (h0 - la) (by omega) (by omega) (fun i hi => by omega) lo)
      · rw [if_neg z]
        refine wpS_bind (hb _ _ (by omega) ?_)
        dsimp only
        cases e : bd (h0 - of) with
        | true =>
          simp only [if_true]
          exact wpS_pure (last (h0 + 1 - min of (h0 + 1)) (h0 - la) (by omega) (by omega) (fun i hi => mono i _ (by omega) (by omega) e) lo)
        | false =>
          simp only [Bool.false_eq_true, if_false]
          exact wpS_pure ⟨rfl, _, _, rfl, by omega, by omega, by omega, e⟩
    · rintro c st' ⟨rfl, la, of, rfl, g1, g2, g3, g4⟩
      refine last (h0 + 1 - min of (h0 + 1)) (h0 - la) (by omega) (by omega) (fun i hi => by omega) fun i h1 h2 => ?_
      cases e2 : bd i with
      | false => rfl
      | true => rw [mono (h0 - la) i h1 h2 e2] at g4; cases g4
end
end ZS

namespace ZS
open PySem PyProof.Rows
def setG (g : Nat) : StateT SortSt Sem Unit := modify fun s => SortSt.mk' (kindOf s) (arrOf s) (pendingOf s) g (failedOf s)
def dn (a b out : Array Keyed) (i j : Nat) : Array Keyed := out ++ a.extract i a.size ++ b.extract j b.size
def lastA (a b out : Array Keyed) (i j : Nat) : Array Keyed := out ++ b.extract j b.size ++ a.extract i a.size
theorem mLo_eq (a b : Array Keyed) : mLo a b = (do
  rule "list.sort.merge-lo"
  let mut out : Array Keyed := #[← elem' b 0]
  let mut i := 0
  let mut j := 1
  if j == b.size then return dn a b out i j
  if i + 1 == a.size then return lastA a b out i j
  let mut mg := gallopOf (← get)
  for _ in [0:a.size + b.size] do
    let mut ca := 0
    let mut cb := 0
    for _ in [0:a.size + b.size] do
      let some bw ← lt' (← elem' b j) (← elem' a i) | return dn a b out i j
      if bw then
        out := out.push (← elem' b j); j := j + 1; cb := cb + 1; ca := 0
        if j == b.size then return dn a b out i j
        if cb ≥ mg then break
      else
        out := out.push (← elem' a i); i := i + 1; ca := ca + 1; cb := 0
        if i + 1 == a.size then return lastA a b out i j
        if ca ≥ mg then break
    rule "list.sort.gallop"
    mg := mg + 1
    for _ in [0:a.size + b.size] do
      if mg > 1 then mg := mg - 1
      setG mg
      let some k ← gal false (← elem' b j) a i (a.size - i) 0 | return dn a b out i j
      ca := k
      if k > 0 then
        out := out ++ a.extract i (i + k); i := i + k
        if i + 1 == a.size then return lastA a b out i j
        if i == a.size then return dn a b out i j
      out := out.push (← elem' b j); j := j + 1
      if j == b.size then return dn a b out i j
      let some k ← gal true (← elem' a i) b j (b.size - j) 0 | return dn a b out i j
      cb := k
      if k > 0 then
        out := out ++ b.extract j (j + k); j := j + k
        if j == b.size then return dn a b out i j
      out := out.push (← elem' a i); i := i + 1
      if i + 1 == a.size then return lastA a b out i j
      if ca < 7 && cb < 7 then break
    mg := mg + 1
    setG mg
  unsupported "internal:list.sort.merge-bound") := rfl
abbrev GS := Option (Array Keyed) × Array Keyed × Nat × Nat × Nat × Nat × Nat
abbrev FS := Option (Array Keyed) × Array Keyed × Nat × Nat × Nat × Nat
abbrev OS := Option (Array Keyed) × Array Keyed × Nat × Nat × Nat
def g3 (a b out : Array Keyed) (i j mg ca cb : Nat) : StateT SortSt Sem (ForInStep GS) := do
  let y ← elem' a i
  if (i + 1 + 1 == a.size) = true then pure (ForInStep.done (some (lastA a b (out.push y) (i + 1) j), out.push y, i + 1, j, mg, ca, cb))
  else if (decide (ca < 7) && decide (cb < 7)) = true then pure (ForInStep.done (none, out.push y, i + 1, j, mg, ca, cb))
  else pure (ForInStep.yield (none, out.push y, i + 1, j, mg, ca, cb))
def g2 (a b out : Array Keyed) (i j mg ca cb : Nat) : StateT SortSt Sem (ForInStep GS) := do
  let y ← elem' b j
  if (j + 1 == b.size) = true then pure (ForInStep.done (some (dn a b (out.push y) i (j + 1)), out.push y, i, j + 1, mg, ca, cb))
  else do
    let z ← elem' a i
    let some k ← gal true z b (j + 1) (b.size - (j + 1)) 0 | pure (ForInStep.done (some (dn a b (out.push y) i (j + 1)), out.push y, i, j + 1, mg, ca, cb))
    if k > 0 then
        if (j + 1 + k == b.size) = true then pure (ForInStep.done (some (dn a b (out.push y ++ b.extract (j + 1) (j + 1 + k)) i (j + 1 + k)), out.push y ++ b.extract (j + 1) (j + 1 + k), i, j + 1 + k, mg, ca, k))
        else g3 a b (out.push y ++ b.extract (j + 1) (j + 1 + k)) i (j + 1 + k) mg ca k
    else g3 a b (out.push y) i (j + 1) mg ca k
def g1 (a b out : Array Keyed) (i j mg ca cb : Nat) : StateT SortSt Sem (ForInStep GS) := do
  setG mg
  let y ← elem' b j
  let some k ← gal false y a i (a.size - i) 0 | pure (ForInStep.done (some (dn a b out i j), out, i, j, mg, ca, cb))
  if k > 0 then
      if (i + k + 1 == a.size) = true then pure (ForInStep.done (some (lastA a b (out ++ a.extract i (i + k)) (i + k) j), out ++ a.extract i (i + k), i + k, j, mg, k, cb))
      else if (i + k == a.size) = true then pure (ForInStep.done (some (dn a b (out ++ a.extract i (i + k)) (i + k) j), out ++ a.extract i (i + k), i + k, j, mg, k, cb))
      else g2 a b (out ++ a.extract i (i + k)) (i + k) j mg k cb
  else g2 a b out i j mg k cb
def f1 (a b out : Array Keyed) (i j ca cb mg : Nat) : StateT SortSt Sem (ForInStep FS) := do
  let y ← elem' b j
  let z ← elem' a i
  let some bw ← lt' y z | pure (ForInStep.done (some (dn a b out i j), out, i, j, ca, cb))
  if bw = true then do
      let y ← elem' b j
      if (j + 1 == b.size) = true then pure (ForInStep.done (some (dn a b (out.push y) i (j + 1)), out.push y, i, j + 1, 0, cb + 1))
      else if cb + 1 ≥ mg then pure (ForInStep.done (none, out.push y, i, j + 1, 0, cb + 1)) else pure (ForInStep.yield (none, out.push y, i, j + 1, 0, cb + 1))
  else do
      let z ← elem' a i
      if (i + 1 + 1 == a.size) = true then pure (ForInStep.done (some (lastA a b (out.push z) (i + 1) j), out.push z, i + 1, j, ca + 1, 0))
      else if ca + 1 ≥ mg then pure (ForInStep.done (none, out.push z, i + 1, j, ca + 1, 0)) else pure (ForInStep.yield (none, out.push z, i + 1, j, ca + 1, 0))
def oLo (a b : Array Keyed) (c : OS) : StateT SortSt Sem (ForInStep OS) := do
  let r ← forIn [0:a.size + b.size] ((none, c.2.1, c.2.2.1, c.2.2.2.1, 0, 0) : FS) fun _ d => f1 a b d.2.1 d.2.2.1 d.2.2.2.1 d.2.2.2.2.1 d.2.2.2.2.2 c.2.2.2.2
  match r.1 with
  | some q => pure (ForInStep.done (some q, r.2.1, r.2.2.1, r.2.2.2.1, c.2.2.2.2))
  | none => do
    liftM (rule "list.sort.gallop")
    let e ← forIn [0:a.size + b.size] ((none, r.2.1, r.2.2.1, r.2.2.2.1, c.2.2.2.2 + 1, r.2.2.2.2.1, r.2.2.2.2.2) : GS) fun _ d =>
      if d.2.2.2.2.1 > 1 then g1 a b d.2.1 d.2.2.1 d.2.2.2.1 (d.2.2.2.2.1 - 1) d.2.2.2.2.2.1 d.2.2.2.2.2.2 else g1 a b d.2.1 d.2.2.1 d.2.2.2.1 d.2.2.2.2.1 d.2.2.2.2.2.1 d.2.2.2.2.2.2
    match e.1 with
    | some q => pure (ForInStep.done (some q, e.2.1, e.2.2.1, e.2.2.2.1, e.2.2.2.2.1))
    | none => do
      setG (e.2.2.2.2.1 + 1)
      pure (ForInStep.yield (none, e.2.1, e.2.2.1, e.2.2.2.1, e.2.2.2.2.1 + 1))
set_option maxHeartbeats 2000000 in
theorem mLo_eq2 (a b : Array Keyed) : mLo a b = (do
    liftM (rule "list.sort.merge-lo")
    let y ← elem' b 0
    if (1 == b.size) = true then pure (dn a b #[y] 0 1)
    else if (0 + 1 == a.size) = true then pure (lastA a b #[y] 0 1)
    else do
      let st ← get
      let r ← forIn [0:a.size + b.size] ((none, #[y], 0, 1, gallopOf st) : OS) fun _ c => oLo a b c
      match r.1 with
      | some q => pure q
      | none => liftM (unsupported "internal:list.sort.merge-bound" : Sem (Array Keyed))) := by
  rw [mLo_eq]
  unfold oLo
  refine congrArg (bind _) (funext fun _ => ?_)
  refine congrArg (bind _) (funext fun y => ?_)
  refine ite_congr rfl (fun _ => rfl) (fun _ => ?_)
  refine ite_congr rfl (fun _ => rfl) (fun _ => ?_)
  refine congrArg (bind _) (funext fun st => ?_)
  refine congr (congrArg bind (congrArg (forIn _ _) (funext fun _ => funext fun c => ?_))) ?_
  · refine congr (congrArg bind (congrArg (forIn _ _) (funext fun _ => funext fun d => ?_))) ?_
    · unfold f1
      rfl
    · funext r
      obtain ⟨r1, r2⟩ := r
      cases r1 with
      | some q => rfl
      | none =>
        refine congrArg (bind _) (funext fun _ => ?_)
        refine congr (congrArg bind (congrArg (forIn _ _) (funext fun _ => funext fun d => ?_))) ?_
        ·
          unfold g1
          refine ite_congr rfl (fun _ => ?_) (fun _ => ?_)
          all_goals
            refine congrArg (bind _) (funext fun _ => ?_)
            refine congrArg (bind _) (funext fun y => ?_)
            refine congrArg (bind _) (funext fun r => ?_)
            cases r with
            | none => rfl
            | some k =>
              refine ite_congr rfl (fun _ => ?_) (fun _ => ?_)
              · refine ite_congr rfl (fun _ => rfl) (fun _ => ?_)
                refine ite_congr rfl (fun _ => rfl) (fun _ => ?_)
                unfold g2
                rfl
              · unfold g2
                rfl
        · funext e; obtain ⟨e1, e2⟩ := e; cases e1 <;> rfl
  · funext e; obtain ⟨e1, e2⟩ := e; cases e1 <;> rfl
end ZS

namespace ZS
open PySem PyProof.Rows
/-- comparisons go by ranks -/
def LtOk (M : Model) (A : Around) (E : Value → Shared → Prop) (s : Shared) (kd : SortKind) (rk : Keyed → Nat) (S : Keyed → Prop) : Prop :=
  ∀ (x y : Keyed) (st : SortSt) (Q : Option Bool → SortSt → Prop), S x → S y → kindOf st = kd → Q (some (decide (rk x < rk y))) st → wpS M A E s (lt' x y) Q st
structure Keep (st st' : SortSt) : Prop where
  k : kindOf st' = kindOf st
  a : arrOf st' = arrOf st
  p : pendingOf st' = pendingOf st
  f : failedOf st' = failedOf st
theorem Keep.rfl' {st : SortSt} : Keep st st := ⟨rfl, rfl, rfl, rfl⟩
theorem Keep.g {st st' : SortSt} (h : Keep st st') (g : Nat) : Keep st (SortSt.mk' (kindOf st') (arrOf st') (pendingOf st') g (failedOf st')) := ⟨h.k, h.a, h.p, h.f⟩
section
variable {rk : Keyed → Nat}
abbrev Srt (rk : Keyed → Nat) (l : List Keyed) : Prop := l.Pairwise fun x y => rk x ≤ rk y
structure MS (rk : Keyed → Nat) (a b out : List Keyed) (i j : Nat) : Prop where
  perm : out.Perm (a.take i ++ b.take j)
  srt : Srt rk out
  le : ∀ x ∈ out, (∀ y ∈ a.drop i, rk x ≤ rk y) ∧ ∀ y ∈ b.drop j, rk x ≤ rk y
def Res (rk : Keyed → Nat) (a b r : List Keyed) : Prop := r.Perm (a ++ b) ∧ Srt rk r
theorem MS.addA {a b out : List Keyed} {i j k : Nat} (h : MS rk a b out i j) (sa : Srt rk a) (hc : ∀ y ∈ (a.drop i).take k, ∀ z ∈ b.drop j, rk y ≤ rk z) : MS rk a b (out ++ (a.drop i).take k) (i + k) j := by
  have sd : Srt rk (a.drop i) := List.Pairwise.sublist (List.drop_sublist _ _) sa
  have split : a.drop i = (a.drop i).take k ++ a.drop (i + k) := by rw [← List.drop_drop]; exact (List.take_append_drop k (a.drop i)).symm
  refine ⟨?_, ?_, fun x hx => ?_⟩
  · rw [List.take_add]
    refine (h.perm.append_right _).trans ?_
    rw [List.append_assoc, List.append_assoc]
    exact List.Perm.append_left _ List.perm_append_comm
  · refine List.pairwise_append.mpr ⟨h.srt, List.Pairwise.sublist (List.take_sublist _ _) sd, fun x hx y hy => (h.le x hx).1 y (List.mem_of_mem_take hy)⟩
  · rcases List.mem_append.mp hx with hx | hx
    · refine ⟨fun y hy => (h.le x hx).1 y ?_, (h.le x hx).2⟩
      rw [split]
      exact List.mem_append_right _ hy
    · refine ⟨fun y hy => ?_, hc x hx⟩
      rw [split] at sd
      exact (List.pairwise_append.mp sd).2.2 x hx y hy
theorem MS.addB {a b out : List Keyed} {i j k : Nat} (h : MS rk a b out i j) (sb : Srt rk b) (hc : ∀ y ∈ (b.drop j).take k, ∀ z ∈ a.drop i, rk y ≤ rk z) : MS rk a b (out ++ (b.drop j).take k) i (j + k) := by
  have sd : Srt rk (b.drop j) := List.Pairwise.sublist (List.drop_sublist _ _) sb
  have split : b.drop j = (b.drop j).take k ++ b.drop (j + k) := by rw [← List.drop_drop]; exact (List.take_append_drop k (b.drop j)).symm
  refine ⟨?_, ?_, fun x hx => ?_⟩
  · rw [List.take_add, ← List.append_assoc]
    exact h.perm.append_right _
  · refine List.pairwise_append.mpr ⟨h.srt, List.Pairwise.sublist (List.take_sublist _ _) sd, fun x hx y hy => (h.le x hx).2 y (List.mem_of_mem_take hy)⟩
  · rcases List.mem_append.mp hx with hx | hx
    · refine ⟨(h.le x hx).1, fun y hy => (h.le x hx).2 y ?_⟩
      rw [split]
      exact List.mem_append_right _ hy
    · refine ⟨hc x hx, fun y hy => ?_⟩
      rw [split] at sd
      exact (List.pairwise_append.mp sd).2.2 x hx y hy
theorem MS.all {a b out : List Keyed} {i j : Nat} (h : MS rk a b out i j) (h1 : a.length ≤ i) (h2 : b.length ≤ j) : Res rk a b out := by
  have := h.perm
  rw [List.take_of_length_le h1, List.take_of_length_le h2] at this
  exact ⟨this, h.srt⟩
theorem drop_all {l : List Keyed} (i : Nat) : (l.drop i).take l.length = l.drop i := List.take_of_length_le (by rw [List.length_drop]; omega)
theorem MS.done {a b out : List Keyed} {i j : Nat} (h : MS rk a b out i j) (sa : Srt rk a) (sb : Srt rk b) (e : a.length ≤ i ∨ b.length ≤ j) : Res rk a b (out ++ a.drop i ++ b.drop j) := by
  have h1 := h.addA (k := a.length) sa fun y hy z hz => by
    rcases e with e | e
    · rw [List.drop_of_length_le e] at hy; simp at hy
    · rw [List.drop_of_length_le e] at hz; simp at hz
  have h2 := h1.addB (k := b.length) sb fun y hy z hz => by
    rw [List.drop_of_length_le (by omega)] at hz; simp at hz
  rw [drop_all, drop_all] at h2
  exact h2.all (by omega) (by omega)
theorem MS.last {a b out : List Keyed} {i j : Nat} (h : MS rk a b out i j) (sa : Srt rk a) (sb : Srt rk b) (e : ∀ y ∈ b.drop j, ∀ z ∈ a.drop i, rk y ≤ rk z) : Res rk a b (out ++ b.drop j ++ a.drop i) := by
  have h1 := h.addB (k := b.length) sb fun y hy z hz => e y (List.mem_of_mem_take hy) z hz
  have h2 := h1.addA (k := a.length) sa fun y hy z hz => by
    rw [List.drop_of_length_le (by omega)] at hz; simp at hz
  rw [drop_all, drop_all] at h2
  exact h2.all (by omega) (by omega)
theorem ext_all (a : Array Keyed) (i : Nat) : (a.extract i a.size).toList = a.toList.drop i := by
  rw [Array.toList_extract, List.extract_eq_drop_take]
  exact List.take_of_length_le (by rw [List.length_drop, Array.length_toList]; exact Nat.le_refl _)
theorem ext_part (a : Array Keyed) (i k : Nat) : (a.extract i (i + k)).toList = (a.toList.drop i).take k := by
  rw [Array.toList_extract, List.extract_eq_drop_take, Nat.add_sub_cancel_left]
theorem drop_one {l : List Keyed} {i : Nat} {y : Keyed} (h : l[i]? = some y) : (l.drop i).take 1 = [y] := by
  obtain ⟨hl, e⟩ := List.getElem?_eq_some_iff.mp h
  rw [List.drop_eq_getElem_cons hl, List.take_succ_cons, List.take_zero, e]
theorem drop_mem {l : List Keyed} {i : Nat} {y : Keyed} (h : l[i]? = some y) (s : Srt rk l) : ∀ z ∈ l.drop i, rk y ≤ rk z := by
  obtain ⟨hl, e⟩ := List.getElem?_eq_some_iff.mp h
  intro z hz
  have sd : Srt rk (l.drop i) := List.Pairwise.sublist (List.drop_sublist _ _) s
  rw [List.drop_eq_getElem_cons hl, e] at sd hz
  rcases List.mem_cons.mp hz with rfl | hz
  · exact Nat.le_refl _
  · exact (List.pairwise_cons.mp sd).1 z hz
/-- by places -/
theorem srt_at {l : List Keyed} (s : Srt rk l) {i j : Nat} {x y : Keyed} (hij : i ≤ j) (hx : l[i]? = some x) (hy : l[j]? = some y) : rk x ≤ rk y := by
  refine drop_mem hx s y ?_
  rw [List.mem_iff_getElem?]
  exact ⟨j - i, by rw [List.getElem?_drop, show i + (j - i) = j by omega]; exact hy⟩
theorem mem_part {l : List Keyed} {i k : Nat} {y : Keyed} (h : y ∈ (l.drop i).take k) : ∃ j, j < k ∧ l[i + j]? = some y := by
  obtain ⟨j, hj⟩ := List.mem_iff_getElem?.mp h
  rw [List.getElem?_take] at hj
  split at hj
  · next hlt => exact ⟨j, hlt, by rw [List.getElem?_drop] at hj; exact hj⟩
  · cases hj
theorem mem_dropI {l : List Keyed} {i : Nat} {y : Keyed} (h : y ∈ l.drop i) : ∃ j, l[i + j]? = some y := by
  obtain ⟨j, hj⟩ := List.mem_iff_getElem?.mp h
  exact ⟨j, by rw [List.getElem?_drop] at hj; exact hj⟩
end
section
variable {M : Model} {A : Around} {E : Value → Shared → Prop} {s : Shared} {kd : SortKind} {rk : Keyed → Nat} {S : Keyed → Prop}
theorem wp_elem {ar : Array Keyed} {i : Nat} {p : Keyed} {st : SortSt} {Q : Keyed → SortSt → Prop} (h : ar[i]? = some p) (q : Q p st) : wpS M A E s (elem' ar i) Q st := by
  rw [elem'_eq, h]
  exact wpS_pure q
theorem wp_bey {lf : Bool} {ky p : Keyed} {ar : Array Keyed} {b0 i : Nat} {st : SortSt} {Q : Option Bool → SortSt → Prop} (L : LtOk M A E s kd rk S) (hk : kindOf st = kd) (hp : ar[b0 + i]? = some p) (Sp : S p) (Sk : S ky)
    (q : Q (some (if lf = true then decide (rk p < rk ky) else !decide (rk ky < rk p))) st) : wpS M A E s (bey lf ky ar b0 i) Q st := by
  unfold bey
  refine wpS_bind (wp_elem hp ?_)
  cases lf with
  | true => exact L p ky st _ Sp Sk hk q
  | false => exact wpS_bind (L ky p st _ Sk Sp hk (wpS_pure q))
/-- gallop over a sorted part: how many are below the key (left), or not above it -/
theorem wp_gal2 {lf : Bool} {ky : Keyed} {ar : Array Keyed} {b0 n h0 : Nat} {st : SortSt} {Q : Option Nat → SortSt → Prop} (L : LtOk M A E s kd rk S) (hk : kindOf st = kd) (hh : h0 < n) (hsz : b0 + n ≤ ar.size) (Sa : ∀ (i : Nat) p, ar[i]? = some p → S p) (Sk : S ky)
    (srt : ∀ (i j : Nat) p q, i ≤ j → j < n → ar[b0 + i]? = some p → ar[b0 + j]? = some q → rk p ≤ rk q)
    (h : ∀ k, k ≤ n → (∀ (i : Nat) p, i < k → ar[b0 + i]? = some p → if lf = true then rk p < rk ky else rk p ≤ rk ky) → (∀ (i : Nat) p, k ≤ i → i < n → ar[b0 + i]? = some p → if lf = true then rk ky ≤ rk p else rk ky < rk p) → Q (some k) st) :
    wpS M A E s (gal lf ky ar b0 n h0) Q st := by
  have get : ∀ i, i < n → ar[b0 + i]? = some (ar.getD (b0 + i) (Value.none, Value.none)) := fun i hi => by
    rw [Array.getD_eq_getD_getElem?, Array.getElem?_eq_getElem (by omega)]
    rfl
  refine wp_gal (bd := fun i => if lf = true then decide (rk (ar.getD (b0 + i) (Value.none, Value.none)) < rk ky) else !decide (rk ky < rk (ar.getD (b0 + i) (Value.none, Value.none)))) hh (fun i R hi r => wp_bey L hk (get i hi) (Sa _ _ (get i hi)) Sk r) ?_ ?_
  · intro i j hij hj hb
    have := srt i j _ _ hij hj (get i (by omega)) (get j hj)
    cases lf with
    | true =>
      simp only [if_true, decide_eq_true_eq] at hb ⊢
      omega
    | false =>
      simp only [Bool.false_eq_true, if_false, Bool.not_eq_true', decide_eq_false_iff_not] at hb ⊢
      omega
  · intro k hk' h1 h2
    refine h k hk' (fun i p hi hp => ?_) (fun i p h3 h4 hp => ?_)
    · have e := get i (by omega)
      rw [hp] at e
      cases e
      have := h1 i hi
      cases lf with
      | true => simpa using this
      | false => simpa using this
    · have e := get i h4
      rw [hp] at e
      cases e
      have := h2 i h3 h4
      cases lf with
      | true => simpa using this
      | false => simpa using this
theorem wp_setG {g : Nat} {st : SortSt} {Q : Unit → SortSt → Prop} (q : Q () (SortSt.mk' (kindOf st) (arrOf st) (pendingOf st) g (failedOf st))) : wpS M A E s (setG g) Q st := wpS_modify q
end
end ZS

namespace ZS
open PySem PyProof.Rows
section
variable {M : Model} {A : Around} {E : Value → Shared → Prop} {s : Shared} {kd : SortKind} {rk : Keyed → Nat} {S : Keyed → Prop} {a b : Array Keyed}
/-- what merge-lo is handed -/
structure LoOk (rk : Keyed → Nat) (S : Keyed → Prop) (a b : Array Keyed) : Prop where
  sa : Srt rk a.toList
  sb : Srt rk b.toList
  Sa : ∀ (i : Nat) p, a[i]? = some p → S p
  Sb : ∀ (i : Nat) p, b[i]? = some p → S p
  pa : 0 < a.size
  pb : 0 < b.size
  first : ∀ p, b[0]? = some p → ∀ z ∈ a.toList, rk p ≤ rk z
  last : ∀ p, a[a.size - 1]? = some p → ∀ z ∈ b.toList, rk z ≤ rk p
theorem LoOk.lastRes (h : LoOk rk S a b) {out : Array Keyed} {i j : Nat} (m : MS rk a.toList b.toList out.toList i j) (e : i + 1 = a.size) : Res rk a.toList b.toList (lastA a b out i j).toList := by
  unfold lastA
  rw [Array.toList_append, Array.toList_append, ext_all, ext_all]
  refine m.last h.sa h.sb fun y hy z hz => ?_
  obtain ⟨k, hk⟩ := mem_dropI hz
  have hk' : i + k < a.toList.length := (List.getElem?_eq_some_iff.mp hk).1
  rw [Array.length_toList] at hk'
  have k0 : k = 0 := by omega
  subst k0
  refine h.last z ?_ y (List.mem_of_mem_drop hy)
  rw [← Array.getElem?_toList, show a.size - 1 = i + 0 by omega]
  exact hk
theorem LoOk.doneRes (h : LoOk rk S a b) {out : Array Keyed} {i j : Nat} (m : MS rk a.toList b.toList out.toList i j) (e : a.size ≤ i ∨ b.size ≤ j) : Res rk a.toList b.toList (dn a b out i j).toList := by
  unfold dn
  rw [Array.toList_append, Array.toList_append, ext_all, ext_all]
  exact m.done h.sa h.sb (by rw [Array.length_toList, Array.length_toList]; exact e)
/-- at work: two of a and one of b are left at least -/
structure LI (rk : Keyed → Nat) (a b out : Array Keyed) (i j : Nat) : Prop where
  m : MS rk a.toList b.toList out.toList i j
  i : i + 1 < a.size
  j : j < b.size
theorem MS.pushB' {out : Array Keyed} {i j : Nat} (m : MS rk a.toList b.toList out.toList i j) (H : LoOk rk S a b) {y : Keyed} (hy : b[j]? = some y) (hc : ∀ z ∈ a.toList.drop i, rk y ≤ rk z) : MS rk a.toList b.toList (out.push y).toList i (j + 1) := by
  have hy' : b.toList[j]? = some y := by rw [Array.getElem?_toList]; exact hy
  have := m.addB (k := 1) H.sb (by rw [drop_one hy']; intro w hw; rw [List.mem_singleton.mp hw]; exact hc)
  rw [drop_one hy'] at this
  rw [Array.toList_push]
  exact this
theorem MS.pushA' {out : Array Keyed} {i j : Nat} (m : MS rk a.toList b.toList out.toList i j) (H : LoOk rk S a b) {y : Keyed} (hy : a[i]? = some y) (hc : ∀ z ∈ b.toList.drop j, rk y ≤ rk z) : MS rk a.toList b.toList (out.push y).toList (i + 1) j := by
  have hy' : a.toList[i]? = some y := by rw [Array.getElem?_toList]; exact hy
  have := m.addA (k := 1) H.sa (by rw [drop_one hy']; intro w hw; rw [List.mem_singleton.mp hw]; exact hc)
  rw [drop_one hy'] at this
  rw [Array.toList_push]
  exact this
theorem dropI_le {l : Array Keyed} {i : Nat} {y : Keyed} (srt : Srt rk l.toList) (hy : l[i]? = some y) : ∀ z ∈ l.toList.drop i, rk y ≤ rk z := drop_mem (by rw [Array.getElem?_toList]; exact hy) srt
/-- how a step ends -/
def StepOk (rk : Keyed → Nat) (a b : Array Keyed) (lo : Nat) (st : SortSt) (r : Option (Array Keyed)) (out : Array Keyed) (i j : Nat) (st' : SortSt) : Prop :=
  Keep st st' ∧ match r with
  | some q => Res rk a.toList b.toList q.toList
  | none => LI rk a b out i j ∧ lo < i + j
theorem wp_f1 {out : Array Keyed} {i j ca cb mg : Nat} {st st' : SortSt} {Q : ForInStep FS → SortSt → Prop} (L : LtOk M A E s kd rk S) (H : LoOk rk S a b) (hk : kindOf st = kd) (K : Keep st st') (I : LI rk a b out i j)
    (h : ∀ (d : Bool) (c : FS), StepOk rk a b (i + j) st c.1 c.2.1 c.2.2.1 c.2.2.2.1 st' → (d = false → c.1 = none) → Q (if d = true then ForInStep.done c else ForInStep.yield c) st') : wpS M A E s (f1 a b out i j ca cb mg) Q st' := by
  have hi : i < a.size := by have := I.i; omega
  obtain ⟨y, hy⟩ : ∃ y, b[j]? = some y := ⟨_, Array.getElem?_eq_getElem I.j⟩
  obtain ⟨z, hz⟩ : ∃ z, a[i]? = some z := ⟨_, Array.getElem?_eq_getElem hi⟩
  unfold f1
  refine wpS_bind (wp_elem hy (wpS_bind (wp_elem hz (wpS_bind (L y z st' _ (H.Sb _ _ hy) (H.Sa _ _ hz) (K.k.trans hk) ?_)))))
  dsimp only
  by_cases w : rk y < rk z
  · rw [decide_eq_true w, if_pos rfl]
    have m := I.m.pushB' H hy fun u hu => Nat.le_trans (Nat.le_of_lt w) (dropI_le H.sa hz u hu)
    refine wpS_bind (wp_elem hy ?_)
    by_cases e : j + 1 = b.size
    · rw [if_pos (by rw [e]; exact beq_self_eq_true _)]
      exact wpS_pure (h true _ ⟨K, H.doneRes m (.inr (by omega))⟩ (fun z => nomatch z))
    · rw [if_neg (by simpa using e)]
      have I2 : LI rk a b (out.push y) i (j + 1) := ⟨m, I.i, by have := I.j; omega⟩
      split
      · exact wpS_pure (h true _ ⟨K, I2, by dsimp only; omega⟩ (fun z => nomatch z))
      · exact wpS_pure (h false _ ⟨K, I2, by dsimp only; omega⟩ (fun _ => rfl))
  · rw [decide_eq_false w, if_neg (by simp)]
    have m := I.m.pushA' H hz fun u hu => Nat.le_trans (by omega) (dropI_le H.sb hy u hu)
    refine wpS_bind (wp_elem hz ?_)
    by_cases e : i + 1 + 1 = a.size
    · rw [if_pos (by rw [e]; exact beq_self_eq_true _)]
      exact wpS_pure (h true _ ⟨K, H.lastRes m e⟩ (fun z => nomatch z))
    · rw [if_neg (by simpa using e)]
      have I2 : LI rk a b (out.push z) (i + 1) j := ⟨m, by have := I.i; omega, I.j⟩
      split
      · exact wpS_pure (h true _ ⟨K, I2, by dsimp only; omega⟩ (fun z => nomatch z))
      · exact wpS_pure (h false _ ⟨K, I2, by dsimp only; omega⟩ (fun _ => rfl))
theorem wp_g3 {out : Array Keyed} {i j mg ca cb lo : Nat} {st st' : SortSt} {Q : ForInStep GS → SortSt → Prop} (H : LoOk rk S a b) (K : Keep st st') (I : LI rk a b out i j) (hc : ∀ z, a[i]? = some z → ∀ u ∈ b.toList.drop j, rk z ≤ rk u) (hl : lo ≤ i + j)
    (h : ∀ (d : Bool) (c : GS), StepOk rk a b lo st c.1 c.2.1 c.2.2.1 c.2.2.2.1 st' → (d = false → c.1 = none) → Q (if d = true then ForInStep.done c else ForInStep.yield c) st') : wpS M A E s (g3 a b out i j mg ca cb) Q st' := by
  have hi : i < a.size := by have := I.i; omega
  obtain ⟨z, hz⟩ : ∃ z, a[i]? = some z := ⟨_, Array.getElem?_eq_getElem hi⟩
  unfold g3
  have m := I.m.pushA' H hz (hc z hz)
  refine wpS_bind (wp_elem hz ?_)
  by_cases e : i + 1 + 1 = a.size
  · rw [if_pos (by rw [e]; exact beq_self_eq_true _)]
    exact wpS_pure (h true _ ⟨K, H.lastRes m e⟩ (fun z => nomatch z))
  · rw [if_neg (by simpa using e)]
    have I2 : LI rk a b (out.push z) (i + 1) j := ⟨m, by have := I.i; omega, I.j⟩
    split
    · exact wpS_pure (h true _ ⟨K, I2, by dsimp only; omega⟩ (fun z => nomatch z))
    · exact wpS_pure (h false _ ⟨K, I2, by dsimp only; omega⟩ (fun _ => rfl))
theorem wp_g2 {out : Array Keyed} {i j mg ca cb lo : Nat} {st st' : SortSt} {Q : ForInStep GS → SortSt → Prop} (L : LtOk M A E s kd rk S) (H : LoOk rk S a b) (hk : kindOf st = kd) (K : Keep st st') (I : LI rk a b out i j) (hc : ∀ y, b[j]? = some y → ∀ u ∈ a.toList.drop i, rk y ≤ rk u) (hl : lo ≤ i + j)
    (h : ∀ (d : Bool) (c : GS), StepOk rk a b lo st c.1 c.2.1 c.2.2.1 c.2.2.2.1 st' → (d = false → c.1 = none) → Q (if d = true then ForInStep.done c else ForInStep.yield c) st') : wpS M A E s (g2 a b out i j mg ca cb) Q st' := by
  have hi : i < a.size := by have := I.i; omega
  obtain ⟨y, hy⟩ : ∃ y, b[j]? = some y := ⟨_, Array.getElem?_eq_getElem I.j⟩
  obtain ⟨z, hz⟩ : ∃ z, a[i]? = some z := ⟨_, Array.getElem?_eq_getElem hi⟩
  unfold g2
  have m := I.m.pushB' H hy (hc y hy)
  refine wpS_bind (wp_elem hy ?_)
  by_cases e : j + 1 = b.size
  · rw [if_pos (by rw [e]; exact beq_self_eq_true _)]
    exact wpS_pure (h true _ ⟨K, H.doneRes m (.inr (by omega))⟩ (fun z => nomatch z))
  rw [if_neg (by simpa using e)]
  have hj : j + 1 < b.size := by have := I.j; omega
  refine wpS_bind (wp_elem hz (wpS_bind (wp_gal2 L (K.k.trans hk) (by omega) (by omega) H.Sb (H.Sa _ _ hz) (fun p q x w h1 h2 h3 h4 => srt_at H.sb (i := j + 1 + p) (j := j + 1 + q) (by omega) (by rw [Array.getElem?_toList]; exact h3) (by rw [Array.getElem?_toList]; exact h4)) fun k k1 k2 k3 => ?_)))
  dsimp only
  have after : ∀ u ∈ b.toList.drop (j + 1 + k), rk z ≤ rk u := fun u hu => by
    obtain ⟨p, hp⟩ := mem_dropI hu
    rw [Array.getElem?_toList] at hp
    have hlt : j + 1 + k + p < b.size := (Array.getElem?_eq_some_iff.mp hp).1
    have := k3 (k + p) u (by omega) (by omega) (by rw [show j + 1 + (k + p) = j + 1 + k + p by omega]; exact hp)
    simpa using this
  by_cases pk : k > 0
  · rw [if_pos pk]
    have m2 : MS rk a.toList b.toList (out.push y ++ b.extract (j + 1) (j + 1 + k)).toList i (j + 1 + k) := by
      rw [Array.toList_append, ext_part]
      refine m.addB H.sb fun u hu w hw => ?_
      obtain ⟨p, hp1, hp⟩ := mem_part hu
      rw [Array.getElem?_toList] at hp
      have := k2 p u hp1 hp
      simp only [if_true] at this
      exact Nat.le_trans (Nat.le_of_lt this) (dropI_le H.sa hz w hw)
    by_cases e2 : j + 1 + k = b.size
    · rw [if_pos (by rw [e2]; exact beq_self_eq_true _)]
      exact wpS_pure (h true _ ⟨K, H.doneRes m2 (.inr (by omega))⟩ (fun z => nomatch z))
    · rw [if_neg (by simpa using e2)]
      refine wp_g3 H K ⟨m2, I.i, by omega⟩ (fun z' hz' => ?_) (by omega) h
      rw [hz] at hz'
      cases hz'
      exact after
  · rw [if_neg pk]
    have k0 : k = 0 := by omega
    subst k0
    refine wp_g3 H K ⟨m, I.i, by omega⟩ (fun z' hz' => ?_) (by omega) h
    rw [hz] at hz'
    cases hz'
    exact after
theorem wp_g1 {out : Array Keyed} {i j mg ca cb : Nat} {st st' : SortSt} {Q : ForInStep GS → SortSt → Prop} (L : LtOk M A E s kd rk S) (H : LoOk rk S a b) (hk : kindOf st = kd) (K : Keep st st') (I : LI rk a b out i j)
    (h : ∀ (d : Bool) (c : GS) (st2 : SortSt), StepOk rk a b (i + j) st c.1 c.2.1 c.2.2.1 c.2.2.2.1 st2 → (d = false → c.1 = none) → Q (if d = true then ForInStep.done c else ForInStep.yield c) st2) : wpS M A E s (g1 a b out i j mg ca cb) Q st' := by
  have hi : i < a.size := by have := I.i; omega
  obtain ⟨y, hy⟩ : ∃ y, b[j]? = some y := ⟨_, Array.getElem?_eq_getElem I.j⟩
  unfold g1
  refine wpS_bind (wp_setG (wpS_bind (wp_elem hy ?_)))
  have K2 := K.g mg
  revert K2
  generalize SortSt.mk' (kindOf st') (arrOf st') (pendingOf st') mg (failedOf st') = st2
  intro K2
  refine wpS_bind (wp_gal2 L (K2.k.trans hk) (by omega) (by omega) H.Sa (H.Sb _ _ hy) (fun p q x w h1 h2 h3 h4 => srt_at H.sa (i := i + p) (j := i + q) (by omega) (by rw [Array.getElem?_toList]; exact h3) (by rw [Array.getElem?_toList]; exact h4)) fun k k1 k2 k3 => ?_)
  dsimp only
  have after : ∀ u ∈ a.toList.drop (i + k), rk y ≤ rk u := fun u hu => by
    obtain ⟨p, hp⟩ := mem_dropI hu
    rw [Array.getElem?_toList] at hp
    have hlt : i + k + p < a.size := (Array.getElem?_eq_some_iff.mp hp).1
    have := k3 (k + p) u (by omega) (by omega) (by rw [show i + (k + p) = i + k + p by omega]; exact hp)
    simp at this
    omega
  by_cases pk : k > 0
  · rw [if_pos pk]
    have m2 : MS rk a.toList b.toList (out ++ a.extract i (i + k)).toList (i + k) j := by
      rw [Array.toList_append, ext_part]
      refine I.m.addA H.sa fun u hu w hw => ?_
      obtain ⟨p, hp1, hp⟩ := mem_part hu
      rw [Array.getElem?_toList] at hp
      have := k2 p u hp1 hp
      simp at this
      exact Nat.le_trans this (dropI_le H.sb hy w hw)
    by_cases e1 : i + k + 1 = a.size
    · rw [if_pos (by rw [e1]; exact beq_self_eq_true _)]
      exact wpS_pure (h true _ _ ⟨K2, H.lastRes m2 e1⟩ (fun z => nomatch z))
    rw [if_neg (by simpa using e1)]
    by_cases e2 : i + k = a.size
    · rw [if_pos (by rw [e2]; exact beq_self_eq_true _)]
      exact wpS_pure (h true _ _ ⟨K2, H.doneRes m2 (.inl (by omega))⟩ (fun z => nomatch z))
    rw [if_neg (by simpa using e2)]
    refine wp_g2 L H hk K2 ⟨m2, by omega, I.j⟩ (fun y' hy' => ?_) (by omega) fun d c x1 x2 => h d c _ x1 x2
    rw [hy] at hy'
    cases hy'
    exact after
  · rw [if_neg pk]
    have k0 : k = 0 := by omega
    subst k0
    refine wp_g2 L H hk K2 I (fun y' hy' => ?_) (Nat.le_refl _) fun d c x1 x2 => h d c _ x1 x2
    rw [hy] at hy'
    cases hy'
    exact after
theorem wp_mLo {st : SortSt} {Q : Array Keyed → SortSt → Prop} (L : LtOk M A E s kd rk S) (H : LoOk rk S a b) (hk : kindOf st = kd) (h : ∀ r st', Keep st st' → Res rk a.toList b.toList r.toList → Q r st') (hr : ∀ x, wpAny M A (rule x) (fun _ s' => s' = s) E s) : wpS M A E s (mLo a b) Q st := by
  rw [mLo_eq2]
  obtain ⟨y, hy⟩ : ∃ y, b[0]? = some y := ⟨_, Array.getElem?_eq_getElem H.pb⟩
  have rl : ∀ {x : String} {R : Unit → SortSt → Prop} {st' : SortSt}, R () st' → wpS M A E s (liftM (rule x) : StateT SortSt Sem Unit) R st' := fun {x R st'} q => wpS_lift (wpAny_mono (hr x) (fun _ _ z => ⟨z, q⟩) fun _ _ z => z)
  refine wpS_bind (rl (wpS_bind (wp_elem hy ?_)))
  have m0 : MS rk a.toList b.toList (#[] : Array Keyed).toList 0 0 := ⟨by simp, List.Pairwise.nil, fun x hx => by simp at hx⟩
  have m1 : MS rk a.toList b.toList (#[y] : Array Keyed).toList 0 1 := m0.pushB' H hy fun z hz => H.first y hy z (by simpa using hz)
  by_cases e1 : 1 = b.size
  · rw [if_pos (by rw [← e1]; rfl)]
    exact wpS_pure (h _ _ .rfl' (H.doneRes m1 (.inr (by omega))))
  rw [if_neg (by simpa using e1)]
  by_cases e2 : 0 + 1 = a.size
  · rw [if_pos (by rw [← e2]; rfl)]
    exact wpS_pure (h _ _ .rfl' (H.lastRes m1 e2))
  rw [if_neg (by simpa using e2)]
  refine wpS_bind (wpS_get ?_)
  have pa := H.pa
  have pb := H.pb
  refine wpS_bind (wpS_mono (wpS_forRange (I := fun x (c : OS) st' => c.1 = none ∧ Keep st st' ∧ LI rk a b c.2.1 c.2.2.1 c.2.2.2.1 ∧ x < c.2.2.1 + c.2.2.2.1) (Q := fun (c : OS) st' => ∃ q, c.1 = some q ∧ Keep st st' ∧ Res rk a.toList b.toList q.toList) ?_ ?_ ⟨rfl, .rfl', ⟨m1, by dsimp only; omega, by dsimp only; omega⟩, by show 0 < 0 + 1; omega⟩) ?_)
  · rintro x ⟨c1, out, i, j, mg⟩ st1 _ hx ⟨rfl, K1, I1, px⟩
    unfold oLo
    dsimp only at I1 px ⊢
    refine wpS_bind (wpS_mono (wpS_forRange (I := fun x (c : FS) st' => c.1 = none ∧ Keep st st' ∧ LI rk a b c.2.1 c.2.2.1 c.2.2.2.1 ∧ i + j + x ≤ c.2.2.1 + c.2.2.2.1) (Q := fun (c : FS) st' => StepOk rk a b (i + j) st c.1 c.2.1 c.2.2.1 c.2.2.2.1 st') ?_ ?_ ⟨rfl, K1, I1, Nat.le_refl _⟩) ?_)
    · rintro x2 ⟨d1, out2, i2, j2, ca, cb⟩ st2 _ hx2 ⟨rfl, K2, I2, p2⟩
      dsimp only at I2 p2 ⊢
      refine wp_f1 L H hk K2 I2 fun d c hs hn => ?_
      cases d with
      | true =>
        show StepOk _ _ _ _ _ _ _ _ _ _
        refine ⟨hs.1, ?_⟩
        have h2 := hs.2
        cases e : c.1 with
        | some q => rw [e] at h2; exact h2
        | none => rw [e] at h2; exact ⟨h2.1, by have := h2.2; omega⟩
      | false =>
        have h2 := hs.2
        rw [hn rfl] at h2
        exact ⟨hn rfl, hs.1, h2.1, by have := h2.2; omega⟩
    · rintro ⟨c1, out2, i2, j2, ca, cb⟩ st2 ⟨rfl, K2, I2, p2⟩
      dsimp only at I2 p2 ⊢
      have := I2.i
      have := I2.j
      omega
    · rintro ⟨c1, out2, i2, j2, ca, cb⟩ st2 ⟨K2, h2⟩
      cases c1 with
      | some q => exact wpS_pure ⟨q, rfl, K2, h2⟩
      | none =>
        obtain ⟨I2, p2⟩ := h2
        dsimp only at I2 p2 ⊢
        refine wpS_bind (rl ?_)
        refine wpS_bind (wpS_mono (wpS_forRange (I := fun _ (c : GS) st' => c.1 = none ∧ Keep st st' ∧ LI rk a b c.2.1 c.2.2.1 c.2.2.2.1 ∧ i + j < c.2.2.1 + c.2.2.2.1) (Q := fun (c : GS) st' => StepOk rk a b (i + j) st c.1 c.2.1 c.2.2.1 c.2.2.2.1 st') ?_ ?_ ⟨rfl, K2, I2, p2⟩) ?_)
        · rintro x3 ⟨d1, out3, i3, j3, mg3, ca3, cb3⟩ st3 _ hx3 ⟨rfl, K3, I3, p3⟩
          dsimp only at I3 p3 ⊢
          have go : ∀ mg', wpS M A E s (g1 a b out3 i3 j3 mg' ca3 cb3) (fun r st' => match r with | .done c' => StepOk rk a b (i + j) st c'.1 c'.2.1 c'.2.2.1 c'.2.2.2.1 st' | .yield c' => c'.1 = none ∧ Keep st st' ∧ LI rk a b c'.2.1 c'.2.2.1 c'.2.2.2.1 ∧ i + j < c'.2.2.1 + c'.2.2.2.1) st3 := fun mg' => by
            refine wp_g1 L H hk K3 I3 fun d c st4 hs hn => ?_
            cases d with
            | true =>
              show StepOk _ _ _ _ _ _ _ _ _ _
              refine ⟨hs.1, ?_⟩
              have h2 := hs.2
              cases e : c.1 with
              | some q => rw [e] at h2; exact h2
              | none => rw [e] at h2; exact ⟨h2.1, by have := h2.2; omega⟩
            | false =>
              have h2 := hs.2
              rw [hn rfl] at h2
              exact ⟨hn rfl, hs.1, h2.1, by have := h2.2; omega⟩
          split
          · exact wpS_mono (go _) fun r st' h => by cases r <;> exact h
          · exact wpS_mono (go _) fun r st' h => by cases r <;> exact h
        · rintro ⟨c1, out3, i3, j3, mg3, ca3, cb3⟩ st3 ⟨rfl, K3, I3, p3⟩
          exact ⟨K3, I3, p3⟩
        · rintro ⟨c1, out3, i3, j3, mg3, ca3, cb3⟩ st3 ⟨K3, h3⟩
          cases c1 with
          | some q => exact wpS_pure ⟨q, rfl, K3, h3⟩
          | none =>
            obtain ⟨I3, p3⟩ := h3
            refine wpS_bind (wp_setG (wpS_pure ⟨rfl, K3.g _, I3, ?_⟩))
            dsimp only at p3 ⊢
            omega
  · rintro ⟨c1, out, i, j, mg⟩ st1 ⟨rfl, K1, I1, px⟩
    have h1 := I1.i
    have h2 := I1.j
    dsimp only at h1 h2 px
    omega
  · rintro ⟨c1, out, i, j, mg⟩ st1 ⟨q, e, K1, r⟩
    dsimp only at e
    subst e
    exact wpS_pure (h q st1 K1 r)
end
end ZS

namespace ZS
open PySem PyProof.Rows
def dnH (a b out : Array Keyed) (i j : Nat) : Array Keyed := a.extract 0 i ++ b.extract 0 j ++ out.reverse
def firstB (a b out : Array Keyed) (i j : Nat) : Array Keyed := b.extract 0 j ++ a.extract 0 i ++ out.reverse
theorem mHi_eq (a b : Array Keyed) : mHi a b = (do
  rule "list.sort.merge-hi"
  let mut i := a.size - 1
  let mut j := b.size
  let mut out : Array Keyed := #[← elem' a i]
  if i == 0 then return dnH a b out i j
  if j == 1 then return firstB a b out i j
  let mut mg := gallopOf (← get)
  for _ in [0:a.size + b.size] do
    let mut ca := 0
    let mut cb := 0
    for _ in [0:a.size + b.size] do
      let some aw ← lt' (← elem' b (j - 1)) (← elem' a (i - 1)) | return dnH a b out i j
      if aw then
        i := i - 1; out := out.push (← elem' a i); ca := ca + 1; cb := 0
        if i == 0 then return dnH a b out i j
        if ca ≥ mg then break
      else
        j := j - 1; out := out.push (← elem' b j); cb := cb + 1; ca := 0
        if j == 1 then return firstB a b out i j
        if cb ≥ mg then break
    rule "list.sort.gallop"
    mg := mg + 1
    for _ in [0:a.size + b.size] do
      if mg > 1 then mg := mg - 1
      setG mg
      let some at' ← gal false (← elem' b (j - 1)) a 0 i (i - 1) | return dnH a b out i j
      let k := i - at'
      ca := k
      if k > 0 then
        out := out ++ (a.extract at' i).reverse; i := at'
        if i == 0 then return dnH a b out i j
      j := j - 1; out := out.push (← elem' b j)
      if j == 1 then return firstB a b out i j
      let some at' ← gal true (← elem' a (i - 1)) b 0 j (j - 1) | return dnH a b out i j
      let k := j - at'
      cb := k
      if k > 0 then
        out := out ++ (b.extract at' j).reverse; j := at'
        if j == 1 then return firstB a b out i j
        if j == 0 then return dnH a b out i j
      i := i - 1; out := out.push (← elem' a i)
      if i == 0 then return dnH a b out i j
      if ca < 7 && cb < 7 then break
    mg := mg + 1
    setG mg
  unsupported "internal:list.sort.merge-bound") := rfl
abbrev GT := Option (Array Keyed) × Nat × Nat × Array Keyed × Nat × Nat × Nat
abbrev FT := Option (Array Keyed) × Nat × Nat × Array Keyed × Nat × Nat
abbrev OT := Option (Array Keyed) × Nat × Nat × Array Keyed × Nat
def k3 (a b out : Array Keyed) (i j mg ca cb : Nat) : StateT SortSt Sem (ForInStep GT) := do
  let y ← elem' a (i - 1)
  if (i - 1 == 0) = true then pure (ForInStep.done (some (dnH a b (out.push y) (i - 1) j), i - 1, j, out.push y, mg, ca, cb))
  else if (decide (ca < 7) && decide (cb < 7)) = true then pure (ForInStep.done (none, i - 1, j, out.push y, mg, ca, cb))
  else pure (ForInStep.yield (none, i - 1, j, out.push y, mg, ca, cb))
def k2 (a b out : Array Keyed) (i j mg ca cb : Nat) : StateT SortSt Sem (ForInStep GT) := do
  let y ← elem' b (j - 1)
  if (j - 1 == 1) = true then pure (ForInStep.done (some (firstB a b (out.push y) i (j - 1)), i, j - 1, out.push y, mg, ca, cb))
  else do
    let z ← elem' a (i - 1)
    let some at' ← gal true z b 0 (j - 1) (j - 1 - 1) | pure (ForInStep.done (some (dnH a b (out.push y) i (j - 1)), i, j - 1, out.push y, mg, ca, cb))
    if j - 1 - at' > 0 then
        if (at' == 1) = true then pure (ForInStep.done (some (firstB a b (out.push y ++ (b.extract at' (j - 1)).reverse) i at'), i, at', out.push y ++ (b.extract at' (j - 1)).reverse, mg, ca, j - 1 - at'))
        else if (at' == 0) = true then pure (ForInStep.done (some (dnH a b (out.push y ++ (b.extract at' (j - 1)).reverse) i at'), i, at', out.push y ++ (b.extract at' (j - 1)).reverse, mg, ca, j - 1 - at'))
        else k3 a b (out.push y ++ (b.extract at' (j - 1)).reverse) i at' mg ca (j - 1 - at')
    else k3 a b (out.push y) i (j - 1) mg ca (j - 1 - at')
def k1 (a b out : Array Keyed) (i j mg ca cb : Nat) : StateT SortSt Sem (ForInStep GT) := do
  setG mg
  let y ← elem' b (j - 1)
  let some at' ← gal false y a 0 i (i - 1) | pure (ForInStep.done (some (dnH a b out i j), i, j, out, mg, ca, cb))
  if i - at' > 0 then
      if (at' == 0) = true then pure (ForInStep.done (some (dnH a b (out ++ (a.extract at' i).reverse) at' j), at', j, out ++ (a.extract at' i).reverse, mg, i - at', cb))
      else k2 a b (out ++ (a.extract at' i).reverse) at' j mg (i - at') cb
  else k2 a b out i j mg (i - at') cb
def e1 (a b out : Array Keyed) (i j ca cb mg : Nat) : StateT SortSt Sem (ForInStep FT) := do
  let y ← elem' b (j - 1)
  let z ← elem' a (i - 1)
  let some aw ← lt' y z | pure (ForInStep.done (some (dnH a b out i j), i, j, out, ca, cb))
  if aw = true then do
      let z ← elem' a (i - 1)
      if (i - 1 == 0) = true then pure (ForInStep.done (some (dnH a b (out.push z) (i - 1) j), i - 1, j, out.push z, ca + 1, 0))
      else if ca + 1 ≥ mg then pure (ForInStep.done (none, i - 1, j, out.push z, ca + 1, 0)) else pure (ForInStep.yield (none, i - 1, j, out.push z, ca + 1, 0))
  else do
      let y ← elem' b (j - 1)
      if (j - 1 == 1) = true then pure (ForInStep.done (some (firstB a b (out.push y) i (j - 1)), i, j - 1, out.push y, 0, cb + 1))
      else if cb + 1 ≥ mg then pure (ForInStep.done (none, i, j - 1, out.push y, 0, cb + 1)) else pure (ForInStep.yield (none, i, j - 1, out.push y, 0, cb + 1))
def oHi (a b : Array Keyed) (c : OT) : StateT SortSt Sem (ForInStep OT) := do
  let r ← forIn [0:a.size + b.size] ((none, c.2.1, c.2.2.1, c.2.2.2.1, 0, 0) : FT) fun _ d => e1 a b d.2.2.2.1 d.2.1 d.2.2.1 d.2.2.2.2.1 d.2.2.2.2.2 c.2.2.2.2
  match r.1 with
  | some q => pure (ForInStep.done (some q, r.2.1, r.2.2.1, r.2.2.2.1, c.2.2.2.2))
  | none => do
    liftM (rule "list.sort.gallop")
    let e ← forIn [0:a.size + b.size] ((none, r.2.1, r.2.2.1, r.2.2.2.1, c.2.2.2.2 + 1, r.2.2.2.2.1, r.2.2.2.2.2) : GT) fun _ d =>
      if d.2.2.2.2.1 > 1 then k1 a b d.2.2.2.1 d.2.1 d.2.2.1 (d.2.2.2.2.1 - 1) d.2.2.2.2.2.1 d.2.2.2.2.2.2 else k1 a b d.2.2.2.1 d.2.1 d.2.2.1 d.2.2.2.2.1 d.2.2.2.2.2.1 d.2.2.2.2.2.2
    match e.1 with
    | some q => pure (ForInStep.done (some q, e.2.1, e.2.2.1, e.2.2.2.1, e.2.2.2.2.1))
    | none => do
      setG (e.2.2.2.2.1 + 1)
      pure (ForInStep.yield (none, e.2.1, e.2.2.1, e.2.2.2.1, e.2.2.2.2.1 + 1))
set_option maxHeartbeats 2000000 in
theorem mHi_eq2 (a b : Array Keyed) : mHi a b = (do
    liftM (rule "list.sort.merge-hi")
    let y ← elem' a (a.size - 1)
    if (a.size - 1 == 0) = true then pure (dnH a b #[y] (a.size - 1) b.size)
    else if (b.size == 1) = true then pure (firstB a b #[y] (a.size - 1) b.size)
    else do
      let st ← get
      let r ← forIn [0:a.size + b.size] ((none, a.size - 1, b.size, #[y], gallopOf st) : OT) fun _ c => oHi a b c
      match r.1 with
      | some q => pure q
      | none => liftM (unsupported "internal:list.sort.merge-bound" : Sem (Array Keyed))) := by
  rw [mHi_eq]
  unfold oHi
  refine congrArg (bind _) (funext fun _ => ?_)
  refine congrArg (bind _) (funext fun y => ?_)
  refine ite_congr rfl (fun _ => rfl) (fun _ => ?_)
  refine ite_congr rfl (fun _ => rfl) (fun _ => ?_)
  refine congrArg (bind _) (funext fun st => ?_)
  refine congr (congrArg bind (congrArg (forIn _ _) (funext fun _ => funext fun c => ?_))) ?_
  · refine congr (congrArg bind (congrArg (forIn _ _) (funext fun _ => funext fun d => ?_))) ?_
    · unfold e1
      rfl
    · funext r
      obtain ⟨r1, r2⟩ := r
      cases r1 with
      | some q => rfl
      | none =>
        refine congrArg (bind _) (funext fun _ => ?_)
        refine congr (congrArg bind (congrArg (forIn _ _) (funext fun _ => funext fun d => ?_))) ?_
        · unfold k1
          refine ite_congr rfl (fun _ => ?_) (fun _ => ?_)
          all_goals
            refine congrArg (bind _) (funext fun _ => ?_)
            refine congrArg (bind _) (funext fun y => ?_)
            refine congrArg (bind _) (funext fun r => ?_)
            cases r with
            | none => rfl
            | some k =>
              refine ite_congr rfl (fun _ => ?_) (fun _ => ?_)
              · refine ite_congr rfl (fun _ => rfl) (fun _ => ?_)
                unfold k2
                rfl
              · unfold k2
                rfl
        · funext e; obtain ⟨e1, e2⟩ := e; cases e1 <;> rfl
  · funext e; obtain ⟨e1, e2⟩ := e; cases e1 <;> rfl
end ZS

namespace ZS
open PySem PyProof.Rows
section
variable {rk : Keyed → Nat}
structure MH (rk : Keyed → Nat) (a b o : List Keyed) (i j : Nat) : Prop where
  perm : o.Perm (a.drop i ++ b.drop j)
  srt : Srt rk o
  le : ∀ x ∈ o, (∀ y ∈ a.take i, rk y ≤ rk x) ∧ ∀ y ∈ b.take j, rk y ≤ rk x
theorem drop_cut {l : List Keyed} {i t : Nat} (h : t ≤ i) : l.drop t = (l.take i).drop t ++ l.drop i := by
  by_cases hi : i ≤ l.length
  · have e := List.take_append_drop i l
    have h2 : (l.take i ++ l.drop i).drop t = (l.take i).drop t ++ l.drop i := List.drop_append_of_le_length (by rw [List.length_take]; omega)
    rw [e] at h2
    exact h2
  · rw [List.take_of_length_le (by omega), List.drop_of_length_le (by omega : l.length ≤ i), List.append_nil]
theorem take_cut {l : List Keyed} {i t : Nat} (h : t ≤ i) : l.take i = l.take t ++ (l.take i).drop t := by
  have := List.take_append_drop t (l.take i)
  rw [List.take_take, Nat.min_eq_left h] at this
  exact this.symm
theorem MH.addA {a b o : List Keyed} {i j t : Nat} (h : MH rk a b o i j) (sa : Srt rk a) (ht : t ≤ i) (hc : ∀ y ∈ (a.take i).drop t, ∀ z ∈ b.take j, rk z ≤ rk y) : MH rk a b ((a.take i).drop t ++ o) t j := by
  have st : Srt rk (a.take i) := List.Pairwise.sublist (List.take_sublist _ _) sa
  refine ⟨?_, ?_, fun x hx => ?_⟩
  · rw [drop_cut (l := a) ht, List.append_assoc]
    exact List.Perm.append_left _ h.perm
  · exact List.pairwise_append.mpr ⟨List.Pairwise.sublist (List.drop_sublist _ _) st, h.srt, fun x hx y hy => (h.le y hy).1 x (List.mem_of_mem_drop hx)⟩
  · rcases List.mem_append.mp hx with hx | hx
    · refine ⟨fun y hy => ?_, hc x hx⟩
      rw [take_cut ht] at st
      exact (List.pairwise_append.mp st).2.2 y hy x hx
    · refine ⟨fun y hy => (h.le x hx).1 y ?_, (h.le x hx).2⟩
      rw [take_cut ht]
      exact List.mem_append_left _ hy
theorem MH.addB {a b o : List Keyed} {i j t : Nat} (h : MH rk a b o i j) (sb : Srt rk b) (ht : t ≤ j) (hc : ∀ y ∈ (b.take j).drop t, ∀ z ∈ a.take i, rk z ≤ rk y) : MH rk a b ((b.take j).drop t ++ o) i t := by
  have st : Srt rk (b.take j) := List.Pairwise.sublist (List.take_sublist _ _) sb
  refine ⟨?_, ?_, fun x hx => ?_⟩
  · rw [drop_cut (l := b) ht]
    refine (List.Perm.append_left _ h.perm).trans ?_
    rw [← List.append_assoc, ← List.append_assoc]
    exact List.Perm.append_right _ List.perm_append_comm
  · exact List.pairwise_append.mpr ⟨List.Pairwise.sublist (List.drop_sublist _ _) st, h.srt, fun x hx y hy => (h.le y hy).2 x (List.mem_of_mem_drop hx)⟩
  · rcases List.mem_append.mp hx with hx | hx
    · refine ⟨hc x hx, fun y hy => ?_⟩
      rw [take_cut ht] at st
      exact (List.pairwise_append.mp st).2.2 y hy x hx
    · refine ⟨(h.le x hx).1, fun y hy => (h.le x hx).2 y ?_⟩
      rw [take_cut ht]
      exact List.mem_append_left _ hy
theorem MH.done {a b o : List Keyed} {i j : Nat} (h : MH rk a b o i j) (sa : Srt rk a) (sb : Srt rk b) (e : i = 0 ∨ j = 0) : Res rk a b (a.take i ++ b.take j ++ o) := by
  have h1 := h.addB (t := 0) sb (Nat.zero_le _) fun y hy z hz => by
    rcases e with e | e
    · rw [e] at hz; simp at hz
    · rw [e] at hy; simp at hy
  have h2 := h1.addA (t := 0) sa (Nat.zero_le _) fun y hy z hz => by simp at hz
  have p := h2.perm
  have q := h2.srt
  simp only [List.drop_zero] at p q
  rw [List.append_assoc]
  exact ⟨p, q⟩
theorem MH.first {a b o : List Keyed} {i j : Nat} (h : MH rk a b o i j) (sa : Srt rk a) (sb : Srt rk b) (e : ∀ y ∈ a.take i, ∀ z ∈ b.take j, rk z ≤ rk y) : Res rk a b (b.take j ++ a.take i ++ o) := by
  have h1 := h.addA (t := 0) sa (Nat.zero_le _) fun y hy z hz => e y (by rw [List.drop_zero] at hy; exact hy) z hz
  have h2 := h1.addB (t := 0) sb (Nat.zero_le _) fun y hy z hz => by simp at hz
  have p := h2.perm
  have q := h2.srt
  simp only [List.drop_zero] at p q
  rw [List.append_assoc]
  exact ⟨p, q⟩
theorem ext_pre (a : Array Keyed) (i : Nat) : (a.extract 0 i).toList = a.toList.take i := by
  rw [Array.toList_extract, List.extract_eq_drop_take, List.drop_zero, Nat.sub_zero]
theorem ext_mid (a : Array Keyed) (t i : Nat) : (a.extract t i).toList = (a.toList.take i).drop t := by
  rw [Array.toList_extract, List.extract_eq_drop_take, List.drop_take]
theorem take_one {l : List Keyed} {i : Nat} {y : Keyed} (h0 : 0 < i) (h : l[i - 1]? = some y) : (l.take i).drop (i - 1) = [y] := by
  obtain ⟨hl, e⟩ := List.getElem?_eq_some_iff.mp h
  have : l.take i = l.take (i - 1) ++ [y] := by
    conv => lhs; rw [show i = i - 1 + 1 by omega, List.take_add_one, h]
    rfl
  rw [this, List.drop_append_of_le_length (by rw [List.length_take]; omega), List.drop_of_length_le (by rw [List.length_take]; omega)]
  rfl
theorem mem_takeI {l : List Keyed} {i : Nat} {y : Keyed} (h : y ∈ l.take i) : ∃ j, j < i ∧ l[j]? = some y := by
  obtain ⟨j, hj⟩ := List.mem_iff_getElem?.mp h
  rw [List.getElem?_take] at hj
  split at hj
  · next hlt => exact ⟨j, hlt, hj⟩
  · cases hj
theorem mem_midI {l : List Keyed} {t i : Nat} {y : Keyed} (h : y ∈ (l.take i).drop t) : ∃ j, t ≤ j ∧ j < i ∧ l[j]? = some y := by
  obtain ⟨j, hj⟩ := mem_dropI h
  rw [List.getElem?_take] at hj
  split at hj
  · next hlt => exact ⟨t + j, by omega, hlt, hj⟩
  · cases hj
end
section
variable {M : Model} {A : Around} {E : Value → Shared → Prop} {s : Shared} {kd : SortKind} {rk : Keyed → Nat} {S : Keyed → Prop} {a b : Array Keyed}
abbrev MHo (rk : Keyed → Nat) (a b out : Array Keyed) (i j : Nat) : Prop := MH rk a.toList b.toList out.toList.reverse i j
theorem LoOk.doneH (h : LoOk rk S a b) {out : Array Keyed} {i j : Nat} (m : MHo rk a b out i j) (e : i = 0 ∨ j = 0) : Res rk a.toList b.toList (dnH a b out i j).toList := by
  unfold dnH
  rw [Array.toList_append, Array.toList_append, ext_pre, ext_pre, Array.toList_reverse]
  exact m.done h.sa h.sb e
theorem LoOk.firstH (h : LoOk rk S a b) {out : Array Keyed} {i j : Nat} (m : MHo rk a b out i j) (e : j = 1) : Res rk a.toList b.toList (firstB a b out i j).toList := by
  unfold firstB
  rw [Array.toList_append, Array.toList_append, ext_pre, ext_pre, Array.toList_reverse]
  refine m.first h.sa h.sb fun y hy z hz => ?_
  subst e
  obtain ⟨k, hk, hz'⟩ := mem_takeI hz
  have k0 : k = 0 := by omega
  subst k0
  exact h.first z (by rw [← Array.getElem?_toList]; exact hz') y (List.mem_of_mem_take hy)
structure HI (rk : Keyed → Nat) (a b out : Array Keyed) (i j : Nat) : Prop where
  m : MHo rk a b out i j
  i0 : 0 < i
  j1 : 1 < j
  ia : i ≤ a.size
  jb : j ≤ b.size
theorem MH.pushA' {out : Array Keyed} {i j : Nat} (m : MHo rk a b out i j) (H : LoOk rk S a b) (h0 : 0 < i) {y : Keyed} (hy : a[i - 1]? = some y) (hc : ∀ z ∈ b.toList.take j, rk z ≤ rk y) : MHo rk a b (out.push y) (i - 1) j := by
  have hy' : a.toList[i - 1]? = some y := by rw [Array.getElem?_toList]; exact hy
  have := m.addA (t := i - 1) H.sa (by omega) (by rw [take_one h0 hy']; intro w hw; rw [List.mem_singleton.mp hw]; exact hc)
  rw [take_one h0 hy'] at this
  show MH _ _ _ (out.push y).toList.reverse _ _
  rw [Array.toList_push, List.reverse_append]
  exact this
theorem MH.pushB' {out : Array Keyed} {i j : Nat} (m : MHo rk a b out i j) (H : LoOk rk S a b) (h0 : 0 < j) {y : Keyed} (hy : b[j - 1]? = some y) (hc : ∀ z ∈ a.toList.take i, rk z ≤ rk y) : MHo rk a b (out.push y) i (j - 1) := by
  have hy' : b.toList[j - 1]? = some y := by rw [Array.getElem?_toList]; exact hy
  have := m.addB (t := j - 1) H.sb (by omega) (by rw [take_one h0 hy']; intro w hw; rw [List.mem_singleton.mp hw]; exact hc)
  rw [take_one h0 hy'] at this
  show MH _ _ _ (out.push y).toList.reverse _ _
  rw [Array.toList_push, List.reverse_append]
  exact this
theorem takeI_le {l : Array Keyed} {i : Nat} {y : Keyed} (srt : Srt rk l.toList) (hy : l[i - 1]? = some y) : ∀ z ∈ l.toList.take i, rk z ≤ rk y := fun z hz => by
  obtain ⟨k, hk, hz'⟩ := mem_takeI hz
  exact srt_at srt (i := k) (j := i - 1) (by omega) hz' (by rw [Array.getElem?_toList]; exact hy)
def StepH (rk : Keyed → Nat) (a b : Array Keyed) (lo : Nat) (st : SortSt) (r : Option (Array Keyed)) (out : Array Keyed) (i j : Nat) (st' : SortSt) : Prop :=
  Keep st st' ∧ match r with
  | some q => Res rk a.toList b.toList q.toList
  | none => HI rk a b out i j ∧ i + j < lo
theorem HI.get (I : HI rk a b out i j) : (∃ y, b[j - 1]? = some y) ∧ ∃ z, a[i - 1]? = some z :=
  ⟨⟨_, Array.getElem?_eq_getElem (by have := I.j1; have := I.jb; omega)⟩, ⟨_, Array.getElem?_eq_getElem (by have := I.i0; have := I.ia; omega)⟩⟩
theorem wp_e1 {out : Array Keyed} {i j ca cb mg : Nat} {st st' : SortSt} {Q : ForInStep FT → SortSt → Prop} (L : LtOk M A E s kd rk S) (H : LoOk rk S a b) (hk : kindOf st = kd) (K : Keep st st') (I : HI rk a b out i j)
    (h : ∀ (d : Bool) (c : FT), StepH rk a b (i + j) st c.1 c.2.2.2.1 c.2.1 c.2.2.1 st' → (d = false → c.1 = none) → Q (if d = true then ForInStep.done c else ForInStep.yield c) st') : wpS M A E s (e1 a b out i j ca cb mg) Q st' := by
  obtain ⟨⟨y, hy⟩, ⟨z, hz⟩⟩ := I.get
  have i0 := I.i0
  have j1 := I.j1
  have ia := I.ia
  have jb := I.jb
  unfold e1
  refine wpS_bind (wp_elem hy (wpS_bind (wp_elem hz (wpS_bind (L y z st' _ (H.Sb _ _ hy) (H.Sa _ _ hz) (K.k.trans hk) ?_)))))
  dsimp only
  by_cases w : rk y < rk z
  · rw [decide_eq_true w, if_pos rfl]
    have m := I.m.pushA' H i0 hz fun u hu => Nat.le_trans (takeI_le H.sb hy u hu) (Nat.le_of_lt w)
    refine wpS_bind (wp_elem hz ?_)
    by_cases e : i - 1 = 0
    · rw [if_pos (by rw [e]; rfl)]
      exact wpS_pure (h true _ ⟨K, H.doneH m (.inl e)⟩ (fun z => nomatch z))
    · rw [if_neg (by simpa using e)]
      have I2 : HI rk a b (out.push z) (i - 1) j := ⟨m, by omega, j1, by omega, jb⟩
      split
      · exact wpS_pure (h true _ ⟨K, I2, by dsimp only; omega⟩ (fun z => nomatch z))
      · exact wpS_pure (h false _ ⟨K, I2, by dsimp only; omega⟩ (fun _ => rfl))
  · rw [decide_eq_false w, if_neg (by simp)]
    have m := I.m.pushB' H (by omega) hy fun u hu => Nat.le_trans (takeI_le H.sa hz u hu) (by omega)
    refine wpS_bind (wp_elem hy ?_)
    by_cases e : j - 1 = 1
    · rw [if_pos (by rw [e]; rfl)]
      exact wpS_pure (h true _ ⟨K, H.firstH m e⟩ (fun z => nomatch z))
    · rw [if_neg (by simpa using e)]
      have I2 : HI rk a b (out.push y) i (j - 1) := ⟨m, i0, by omega, ia, by omega⟩
      split
      · exact wpS_pure (h true _ ⟨K, I2, by dsimp only; omega⟩ (fun z => nomatch z))
      · exact wpS_pure (h false _ ⟨K, I2, by dsimp only; omega⟩ (fun _ => rfl))
theorem wp_k3 {out : Array Keyed} {i j mg ca cb lo : Nat} {st st' : SortSt} {Q : ForInStep GT → SortSt → Prop} (H : LoOk rk S a b) (K : Keep st st') (I : HI rk a b out i j) (hc : ∀ z, a[i - 1]? = some z → ∀ u ∈ b.toList.take j, rk u ≤ rk z) (hl : i + j ≤ lo)
    (h : ∀ (d : Bool) (c : GT), StepH rk a b lo st c.1 c.2.2.2.1 c.2.1 c.2.2.1 st' → (d = false → c.1 = none) → Q (if d = true then ForInStep.done c else ForInStep.yield c) st') : wpS M A E s (k3 a b out i j mg ca cb) Q st' := by
  obtain ⟨⟨y, hy⟩, ⟨z, hz⟩⟩ := I.get
  have i0 := I.i0
  have j1 := I.j1
  have ia := I.ia
  have jb := I.jb
  unfold k3
  have m := I.m.pushA' H i0 hz (hc z hz)
  refine wpS_bind (wp_elem hz ?_)
  by_cases e : i - 1 = 0
  · rw [if_pos (by rw [e]; rfl)]
    exact wpS_pure (h true _ ⟨K, H.doneH m (.inl e)⟩ (fun z => nomatch z))
  · rw [if_neg (by simpa using e)]
    have I2 : HI rk a b (out.push z) (i - 1) j := ⟨m, by omega, j1, by omega, jb⟩
    split
    · exact wpS_pure (h true _ ⟨K, I2, by dsimp only; omega⟩ (fun z => nomatch z))
    · exact wpS_pure (h false _ ⟨K, I2, by dsimp only; omega⟩ (fun _ => rfl))
theorem MHo.block {out : Array Keyed} {i j t : Nat} (m : MHo rk a b out i j) (H : LoOk rk S a b) (ht : t ≤ j) (hc : ∀ y ∈ (b.toList.take j).drop t, ∀ z ∈ a.toList.take i, rk z ≤ rk y) : MHo rk a b (out ++ (b.extract t j).reverse) i t := by
  have := m.addB H.sb ht hc
  show MH _ _ _ (out ++ (b.extract t j).reverse).toList.reverse _ _
  rw [Array.toList_append, List.reverse_append, Array.toList_reverse, List.reverse_reverse, ext_mid]
  exact this
theorem MHo.blockA {out : Array Keyed} {i j t : Nat} (m : MHo rk a b out i j) (H : LoOk rk S a b) (ht : t ≤ i) (hc : ∀ y ∈ (a.toList.take i).drop t, ∀ z ∈ b.toList.take j, rk z ≤ rk y) : MHo rk a b (out ++ (a.extract t i).reverse) t j := by
  have := m.addA H.sa ht hc
  show MH _ _ _ (out ++ (a.extract t i).reverse).toList.reverse _ _
  rw [Array.toList_append, List.reverse_append, Array.toList_reverse, List.reverse_reverse, ext_mid]
  exact this
theorem wp_k2 {out : Array Keyed} {i j mg ca cb lo : Nat} {st st' : SortSt} {Q : ForInStep GT → SortSt → Prop} (L : LtOk M A E s kd rk S) (H : LoOk rk S a b) (hk : kindOf st = kd) (K : Keep st st') (I : HI rk a b out i j) (hc : ∀ y, b[j - 1]? = some y → ∀ u ∈ a.toList.take i, rk u ≤ rk y) (hl : i + j ≤ lo)
    (h : ∀ (d : Bool) (c : GT), StepH rk a b lo st c.1 c.2.2.2.1 c.2.1 c.2.2.1 st' → (d = false → c.1 = none) → Q (if d = true then ForInStep.done c else ForInStep.yield c) st') : wpS M A E s (k2 a b out i j mg ca cb) Q st' := by
  obtain ⟨⟨y, hy⟩, ⟨z, hz⟩⟩ := I.get
  have i0 := I.i0
  have j1 := I.j1
  have ia := I.ia
  have jb := I.jb
  unfold k2
  have m := I.m.pushB' H (by omega) hy (hc y hy)
  refine wpS_bind (wp_elem hy ?_)
  by_cases e : j - 1 = 1
  · rw [if_pos (by rw [e]; rfl)]
    exact wpS_pure (h true _ ⟨K, H.firstH m e⟩ (fun z => nomatch z))
  rw [if_neg (by simpa using e)]
  refine wpS_bind (wp_elem hz (wpS_bind (wp_gal2 L (K.k.trans hk) (by omega) (by omega) H.Sb (H.Sa _ _ hz) (fun p q x w h1 h2 h3 h4 => srt_at H.sb (i := 0 + p) (j := 0 + q) (by omega) (by rw [Array.getElem?_toList]; exact h3) (by rw [Array.getElem?_toList]; exact h4)) fun t t1 t2 t3 => ?_)))
  dsimp only
  have before : ∀ u ∈ b.toList.take t, rk u ≤ rk z := fun u hu => by
    obtain ⟨p, hp1, hp⟩ := mem_takeI hu
    rw [Array.getElem?_toList] at hp
    have := t2 p u hp1 (by rw [Nat.zero_add]; exact hp)
    simp at this
    omega
  by_cases pk : j - 1 - t > 0
  · rw [if_pos pk]
    have m2 : MHo rk a b (out.push y ++ (b.extract t (j - 1)).reverse) i t := by
      refine MHo.block m H (by omega) fun u hu w hw => ?_
      obtain ⟨p, hp0, hp1, hp⟩ := mem_midI hu
      rw [Array.getElem?_toList] at hp
      have := t3 p u hp0 hp1 (by rw [Nat.zero_add]; exact hp)
      simp at this
      exact Nat.le_trans (takeI_le H.sa hz w hw) this
    by_cases e1 : t = 1
    · rw [if_pos (by rw [e1]; rfl)]
      exact wpS_pure (h true _ ⟨K, H.firstH m2 e1⟩ (fun z => nomatch z))
    rw [if_neg (by simpa using e1)]
    by_cases e2 : t = 0
    · rw [if_pos (by rw [e2]; rfl)]
      exact wpS_pure (h true _ ⟨K, H.doneH m2 (.inr e2)⟩ (fun z => nomatch z))
    rw [if_neg (by simpa using e2)]
    refine wp_k3 H K ⟨m2, i0, by omega, ia, by omega⟩ (fun z' hz' => ?_) (by omega) h
    rw [hz] at hz'
    cases hz'
    exact before
  · rw [if_neg pk]
    have k0 : t = j - 1 := by omega
    refine wp_k3 H K ⟨m, i0, by omega, ia, by omega⟩ (fun z' hz' => ?_) (by omega) h
    rw [hz] at hz'
    cases hz'
    rw [k0] at before
    exact before
theorem wp_k1 {out : Array Keyed} {i j mg ca cb : Nat} {st st' : SortSt} {Q : ForInStep GT → SortSt → Prop} (L : LtOk M A E s kd rk S) (H : LoOk rk S a b) (hk : kindOf st = kd) (K : Keep st st') (I : HI rk a b out i j)
    (h : ∀ (d : Bool) (c : GT) (st2 : SortSt), StepH rk a b (i + j) st c.1 c.2.2.2.1 c.2.1 c.2.2.1 st2 → (d = false → c.1 = none) → Q (if d = true then ForInStep.done c else ForInStep.yield c) st2) : wpS M A E s (k1 a b out i j mg ca cb) Q st' := by
  obtain ⟨⟨y, hy⟩, ⟨z, hz⟩⟩ := I.get
  have i0 := I.i0
  have j1 := I.j1
  have ia := I.ia
  have jb := I.jb
  unfold k1
  refine wpS_bind (wp_setG (wpS_bind (wp_elem hy ?_)))
  have K2 := K.g mg
  revert K2
  generalize SortSt.mk' (kindOf st') (arrOf st') (pendingOf st') mg (failedOf st') = st2
  intro K2
  refine wpS_bind (wp_gal2 L (K2.k.trans hk) (by omega) (by omega) H.Sa (H.Sb _ _ hy) (fun p q x w h1 h2 h3 h4 => srt_at H.sa (i := 0 + p) (j := 0 + q) (by omega) (by rw [Array.getElem?_toList]; exact h3) (by rw [Array.getElem?_toList]; exact h4)) fun t t1 t2 t3 => ?_)
  dsimp only
  have before : ∀ u ∈ a.toList.take t, rk u ≤ rk y := fun u hu => by
    obtain ⟨p, hp1, hp⟩ := mem_takeI hu
    rw [Array.getElem?_toList] at hp
    have := t2 p u hp1 (by rw [Nat.zero_add]; exact hp)
    simpa using this
  by_cases pk : i - t > 0
  · rw [if_pos pk]
    have m2 : MHo rk a b (out ++ (a.extract t i).reverse) t j := by
      refine MHo.blockA I.m H (by omega) fun u hu w hw => ?_
      obtain ⟨p, hp0, hp1, hp⟩ := mem_midI hu
      rw [Array.getElem?_toList] at hp
      have := t3 p u hp0 hp1 (by rw [Nat.zero_add]; exact hp)
      simp at this
      exact Nat.le_trans (takeI_le H.sb hy w hw) (Nat.le_of_lt this)
    by_cases e2 : t = 0
    · rw [if_pos (by rw [e2]; rfl)]
      exact wpS_pure (h true _ _ ⟨K2, H.doneH m2 (.inl e2)⟩ (fun z => nomatch z))
    rw [if_neg (by simpa using e2)]
    refine wp_k2 L H hk K2 ⟨m2, by omega, j1, by omega, jb⟩ (fun y' hy' => ?_) (by omega) fun d c x1 x2 => h d c _ x1 x2
    rw [hy] at hy'
    cases hy'
    exact before
  · rw [if_neg pk]
    have k0 : t = i := by omega
    rw [k0] at before
    refine wp_k2 L H hk K2 I (fun y' hy' => ?_) (Nat.le_refl _) fun d c x1 x2 => h d c _ x1 x2
    rw [hy] at hy'
    cases hy'
    exact before
theorem wp_mHi {st : SortSt} {Q : Array Keyed → SortSt → Prop} (L : LtOk M A E s kd rk S) (H : LoOk rk S a b) (hk : kindOf st = kd) (h : ∀ r st', Keep st st' → Res rk a.toList b.toList r.toList → Q r st') (hr : ∀ x, wpAny M A (rule x) (fun _ s' => s' = s) E s) : wpS M A E s (mHi a b) Q st := by
  rw [mHi_eq2]
  have pa := H.pa
  have pb := H.pb
  obtain ⟨y, hy⟩ : ∃ y, a[a.size - 1]? = some y := ⟨_, Array.getElem?_eq_getElem (by omega)⟩
  have rl : ∀ {x : String} {R : Unit → SortSt → Prop} {st' : SortSt}, R () st' → wpS M A E s (liftM (rule x) : StateT SortSt Sem Unit) R st' := fun {x R st'} q => wpS_lift (wpAny_mono (hr x) (fun _ _ z => ⟨z, q⟩) fun _ _ z => z)
  refine wpS_bind (rl (wpS_bind (wp_elem hy ?_)))
  have m0 : MHo rk a b #[] a.size b.size := ⟨by simp, List.Pairwise.nil, fun x hx => by simp at hx⟩
  have m1 : MHo rk a b #[y] (a.size - 1) b.size := m0.pushA' H pa hy fun z hz => H.last y hy z (List.mem_of_mem_take hz)
  by_cases e1 : a.size - 1 = 0
  · rw [if_pos (by rw [e1]; rfl)]
    exact wpS_pure (h _ _ .rfl' (H.doneH m1 (.inl e1)))
  rw [if_neg (by simpa using e1)]
  by_cases e2 : b.size = 1
  · rw [if_pos (by rw [e2]; rfl)]
    exact wpS_pure (h _ _ .rfl' (H.firstH m1 e2))
  rw [if_neg (by simpa using e2)]
  refine wpS_bind (wpS_get ?_)
  refine wpS_bind (wpS_mono (wpS_forRange (I := fun x (c : OT) st' => c.1 = none ∧ Keep st st' ∧ HI rk a b c.2.2.2.1 c.2.1 c.2.2.1 ∧ c.2.1 + c.2.2.1 + x < a.size + b.size) (Q := fun (c : OT) st' => ∃ q, c.1 = some q ∧ Keep st st' ∧ Res rk a.toList b.toList q.toList) ?_ ?_ ⟨rfl, .rfl', ⟨m1, by dsimp only; omega, by dsimp only; omega, by dsimp only; omega, by dsimp only; omega⟩, by dsimp only; omega⟩) ?_)
  · rintro x ⟨c1, i, j, out, mg⟩ st1 _ hx ⟨rfl, K1, I1, px⟩
    unfold oHi
    dsimp only at I1 px ⊢
    refine wpS_bind (wpS_mono (wpS_forRange (I := fun x (c : FT) st' => c.1 = none ∧ Keep st st' ∧ HI rk a b c.2.2.2.1 c.2.1 c.2.2.1 ∧ c.2.1 + c.2.2.1 + x ≤ i + j) (Q := fun (c : FT) st' => StepH rk a b (i + j) st c.1 c.2.2.2.1 c.2.1 c.2.2.1 st') ?_ ?_ ⟨rfl, K1, I1, Nat.le_refl _⟩) ?_)
    · rintro x2 ⟨d1, i2, j2, out2, ca, cb⟩ st2 _ hx2 ⟨rfl, K2, I2, p2⟩
      dsimp only at I2 p2 ⊢
      refine wp_e1 L H hk K2 I2 fun d c hs hn => ?_
      cases d with
      | true =>
        show StepH _ _ _ _ _ _ _ _ _ _
        refine ⟨hs.1, ?_⟩
        have h2 := hs.2
        cases e : c.1 with
        | some q => rw [e] at h2; exact h2
        | none => rw [e] at h2; exact ⟨h2.1, by have := h2.2; omega⟩
      | false =>
        have h2 := hs.2
        rw [hn rfl] at h2
        exact ⟨hn rfl, hs.1, h2.1, by have := h2.2; omega⟩
    · rintro ⟨c1, i2, j2, out2, ca, cb⟩ st2 ⟨rfl, K2, I2, p2⟩
      dsimp only at I2 p2 ⊢
      have := I2.i0
      have := I2.j1
      omega
    · rintro ⟨c1, i2, j2, out2, ca, cb⟩ st2 ⟨K2, h2⟩
      cases c1 with
      | some q => exact wpS_pure ⟨q, rfl, K2, h2⟩
      | none =>
        obtain ⟨I2, p2⟩ := h2
        dsimp only at I2 p2 ⊢
        refine wpS_bind (rl ?_)
        refine wpS_bind (wpS_mono (wpS_forRange (I := fun _ (c : GT) st' => c.1 = none ∧ Keep st st' ∧ HI rk a b c.2.2.2.1 c.2.1 c.2.2.1 ∧ c.2.1 + c.2.2.1 < i + j) (Q := fun (c : GT) st' => StepH rk a b (i + j) st c.1 c.2.2.2.1 c.2.1 c.2.2.1 st') ?_ ?_ ⟨rfl, K2, I2, p2⟩) ?_)
        · rintro x3 ⟨d1, i3, j3, out3, mg3, ca3, cb3⟩ st3 _ hx3 ⟨rfl, K3, I3, p3⟩
          dsimp only at I3 p3 ⊢
          have go : ∀ mg', wpS M A E s (k1 a b out3 i3 j3 mg' ca3 cb3) (fun r st' => match r with | .done c' => StepH rk a b (i + j) st c'.1 c'.2.2.2.1 c'.2.1 c'.2.2.1 st' | .yield c' => c'.1 = none ∧ Keep st st' ∧ HI rk a b c'.2.2.2.1 c'.2.1 c'.2.2.1 ∧ c'.2.1 + c'.2.2.1 < i + j) st3 := fun mg' => by
            refine wp_k1 L H hk K3 I3 fun d c st4 hs hn => ?_
            cases d with
            | true =>
              show StepH _ _ _ _ _ _ _ _ _ _
              refine ⟨hs.1, ?_⟩
              have h2 := hs.2
              cases e : c.1 with
              | some q => rw [e] at h2; exact h2
              | none => rw [e] at h2; exact ⟨h2.1, by have := h2.2; omega⟩
            | false =>
              have h2 := hs.2
              rw [hn rfl] at h2
              exact ⟨hn rfl, hs.1, h2.1, by have := h2.2; omega⟩
          split
          · exact wpS_mono (go _) fun r st' h => by cases r <;> exact h
          · exact wpS_mono (go _) fun r st' h => by cases r <;> exact h
        · rintro ⟨c1, i3, j3, out3, mg3, ca3, cb3⟩ st3 ⟨rfl, K3, I3, p3⟩
          exact ⟨K3, I3, p3⟩
        · rintro ⟨c1, i3, j3, out3, mg3, ca3, cb3⟩ st3 ⟨K3, h3⟩
          cases c1 with
          | some q => exact wpS_pure ⟨q, rfl, K3, h3⟩
          | none =>
            obtain ⟨I3, p3⟩ := h3
            refine wpS_bind (wp_setG (wpS_pure ⟨rfl, K3.g _, I3, ?_⟩))
            dsimp only at p3 ⊢
            omega
  · rintro ⟨c1, i, j, out, mg⟩ st1 ⟨rfl, K1, I1, px⟩
    dsimp only at px
    omega
  · rintro ⟨c1, i, j, out, mg⟩ st1 ⟨q, e, K1, r⟩
    dsimp only at e
    subst e
    exact wpS_pure (h q st1 K1 r)
end
end ZS

namespace ZS
open PySem PyProof.Rows
/-- the rank at a place -/
def R (rk : Keyed → Nat) (xs : Array Keyed) (i : Nat) : Nat := match xs[i]? with
  | some p => rk p
  | none => 0
structure Kp2 (st st' : SortSt) : Prop where
  k : kindOf st' = kindOf st
  p : pendingOf st' = pendingOf st
  f : failedOf st' = failedOf st
  a : (arrOf st').Perm (arrOf st)
theorem Kp2.rfl' {st : SortSt} : Kp2 st st := ⟨rfl, rfl, rfl, Array.Perm.refl _⟩
theorem Kp2.trans {s1 s2 s3 : SortSt} (h : Kp2 s1 s2) (g : Kp2 s2 s3) : Kp2 s1 s3 := ⟨g.k.trans h.k, g.p.trans h.p, g.f.trans h.f, g.a.trans h.a⟩
theorem Kp2.size {st st' : SortSt} (h : Kp2 st st') : (arrOf st').size = (arrOf st).size := h.a.size_eq
section
variable {rk : Keyed → Nat}
theorem R_congr {xs ys : Array Keyed} {i j : Nat} (h : xs[i]? = ys[j]?) : R rk xs i = R rk ys j := by unfold R; rw [h]
theorem R_mirror {xs : Array Keyed} {i j : Nat} (hj : j ≤ xs.size) (k : Nat) : R rk (mirror xs i j ((j - i) / 2)) k = if i ≤ k ∧ k < j then R rk xs (i + j - 1 - k) else R rk xs k := by
  have := getElem?_mirror_all (i := i) hj k
  split at this <;> rename_i h
  · rw [if_pos h]; exact R_congr this
  · rw [if_neg h]; exact R_congr this
theorem R_bubble {xs : Array Keyed} {src d : Nat} (hs : src < xs.size) (hd : d ≤ src) (k : Nat) : R rk (bubble xs src d) k = if k = src - d then R rk xs src else if src - d < k ∧ k ≤ src then R rk xs (k - 1) else R rk xs k := by
  have := getElem?_bubble hs d hd k
  split at this
  · rename_i h; rw [if_pos h]; exact R_congr this
  · rename_i h
    rw [if_neg h]
    split at this
    · rename_i h2; rw [if_pos h2]; exact R_congr this
    · rename_i h2; rw [if_neg h2]; exact R_congr this
def SrtT (rk : Keyed → Nat) (xs : Array Keyed) (lo n : Nat) : Prop := ∀ i j, i ≤ j → j < n → R rk xs (lo + i) ≤ R rk xs (lo + j)
def DecT (rk : Keyed → Nat) (xs : Array Keyed) (lo n : Nat) : Prop := ∀ i j, i ≤ j → j < n → R rk xs (lo + j) ≤ R rk xs (lo + i)
end
/-- what a step over places lo .. lo + n - 1 leaves -/
structure Within (st st' : SortSt) (lo n : Nat) : Prop where
  kp : Kp2 st st'
  out : ∀ k, (k < lo ∨ lo + n ≤ k) → (arrOf st')[k]? = (arrOf st)[k]?
theorem Within.rfl' {st : SortSt} {lo n : Nat} : Within st st lo n := ⟨.rfl', fun _ _ => rfl⟩
theorem Within.trans {s1 s2 s3 : SortSt} {lo n : Nat} (h : Within s1 s2 lo n) (g : Within s2 s3 lo n) : Within s1 s3 lo n := ⟨h.kp.trans g.kp, fun k hk => (g.out k hk).trans (h.out k hk)⟩
section
variable {M : Model} {A : Around} {E : Value → Shared → Prop} {s : Shared} {kd : SortKind} {rk : Keyed → Nat} {S : Keyed → Prop}
/-- all items are known -/
def AllS (S : Keyed → Prop) (st : SortSt) : Prop := ∀ p ∈ (arrOf st).toList, S p
theorem AllS.at {st : SortSt} (h : AllS S st) {i : Nat} {p : Keyed} (e : (arrOf st)[i]? = some p) : S p := h p (by rw [← Array.getElem?_toList] at e; exact List.mem_of_getElem? e)
theorem AllS.kp {st st' : SortSt} (h : AllS S st) (k : Kp2 st st') : AllS S st' := fun p hp => h p ((Array.perm_iff_toList_perm.mp k.a).mem_iff.mp hp)
theorem wp_ltAt {i j : Nat} {st : SortSt} {Q : Option Bool → SortSt → Prop} (L : LtOk M A E s kd rk S) (hk : kindOf st = kd) (hS : AllS S st) (hi : i < (arrOf st).size) (hj : j < (arrOf st).size) (q : Q (some (decide (R rk (arrOf st) i < R rk (arrOf st) j))) st) : wpS M A E s (ltAt' i j) Q st := by
  rw [ltAt'_eq]
  refine wpS_bind (wpS_get ?_)
  have e1 : (arrOf st)[i]? = some (arrOf st)[i] := Array.getElem?_eq_getElem hi
  have e2 : (arrOf st)[j]? = some (arrOf st)[j] := Array.getElem?_eq_getElem hj
  refine wpS_bind (wp_elem e1 (wpS_bind (wp_elem e2 (L _ _ st _ (hS.at e1) (hS.at e2) hk ?_))))
  unfold R at q
  rw [e1, e2] at q
  exact q
theorem wp_rev {i j lo n : Nat} {st : SortSt} {Q : Unit → SortSt → Prop} (hl : lo ≤ i) (hj : j ≤ lo + n) (hsz : j ≤ (arrOf st).size) (h : ∀ st', Within st st' lo n → (∀ k, R rk (arrOf st') k = if i ≤ k ∧ k < j then R rk (arrOf st) (i + j - 1 - k) else R rk (arrOf st) k) → Q () st') : wpS M A E s (reverseSlice' i j) Q st := by
  rw [reverseSlice'_eq]
  refine wpS_modify (h _ ⟨⟨rfl, rfl, rfl, mirror_perm _ _ _ _⟩, fun k hk => ?_⟩ fun k => R_mirror hsz k)
  show (mirror (arrOf st) i j ((j - i) / 2))[k]? = _
  rw [getElem?_mirror_all hsz, if_neg (by omega)]
theorem wp_binS {lo n ok : Nat} {st : SortSt} {Q : Bool → SortSt → Prop} (L : LtOk M A E s kd rk S) (hk : kindOf st = kd) (hS : AllS S st) (hn : lo + n ≤ (arrOf st).size) (hok : ok ≤ n) (hs : SrtT rk (arrOf st) lo ok)
    (h : ∀ st', Within st st' lo n → SrtT rk (arrOf st') lo n → Q true st') : wpS M A E s (binarySort' lo n ok) Q st := by
  rw [binarySort'_eq]
  refine wpS_bind (wpS_mono (wpS_forRange (I := fun k c st' => c = (none, ()) ∧ Within st st' lo n ∧ SrtT rk (arrOf st') lo k) (Q := fun c st' => c = (none, ()) ∧ Within st st' lo n ∧ SrtT rk (arrOf st') lo (max (max ok 1) n)) ?_ (fun c st' z => z) ⟨rfl, .rfl', fun i j h1 h2 => ?_⟩) ?_)
  · rintro k c st1 hk1 hk2 ⟨rfl, W, s1⟩
    have sz1 := W.kp.size
    have hS1 := hS.kp W.kp
    refine wpS_bind (wpS_mono (wpS_forRange (I := fun x c st' => st' = st1 ∧ ∃ l r, c = (none, l, r) ∧ l ≤ r ∧ r ≤ k ∧ r - l ≤ k - x ∧ (∀ i, i < l → R rk (arrOf st1) (lo + i) ≤ R rk (arrOf st1) (lo + k)) ∧ (∀ i, r ≤ i → i < k → R rk (arrOf st1) (lo + k) < R rk (arrOf st1) (lo + i)))
      (Q := fun c st' => st' = st1 ∧ ∃ l, c = (none, l, l) ∧ l ≤ k ∧ (∀ i, i < l → R rk (arrOf st1) (lo + i) ≤ R rk (arrOf st1) (lo + k)) ∧ (∀ i, l ≤ i → i < k → R rk (arrOf st1) (lo + k) < R rk (arrOf st1) (lo + i))) ?_ ?_ ⟨rfl, 0, k, rfl, Nat.zero_le _, Nat.le_refl _, by omega, fun i hi => by omega, fun i h1 h2 => by omega⟩) ?_)
    · rintro x c st2 _ hx ⟨rfl, l, r, rfl, g1, g2, g3, g4, g5⟩
      dsimp only
      by_cases z : l ≥ r
      · rw [if_pos z]
        have e : l = r := by omega
        subst e
        exact wpS_pure ⟨rfl, l, rfl, g2, g4, g5⟩
      · rw [if_neg z]
        refine wpS_bind (wp_ltAt L (W.kp.k.trans hk) hS1 (by omega) (by omega) ?_)
        dsimp only
        by_cases w : R rk (arrOf st2) (lo + k) < R rk (arrOf st2) (lo + (l + r) / 2)
        · rw [decide_eq_true w, if_pos rfl]
          refine wpS_pure ⟨rfl, l, (l + r) / 2, rfl, by omega, by omega, by omega, g4, fun i h1 h2 => ?_⟩
          have := s1 ((l + r) / 2) i h1 h2
          omega
        · rw [decide_eq_false w, if_neg (by simp)]
          refine wpS_pure ⟨rfl, (l + r) / 2 + 1, r, rfl, by omega, by omega, by omega, fun i hi => ?_, g5⟩
          have := s1 i ((l + r) / 2) (by omega) (by omega)
          omega
    · rintro c st2 ⟨rfl, l, r, rfl, g1, g2, g3, g4, g5⟩
      have e : l = r := by omega
      subst e
      exact ⟨rfl, l, rfl, g2, g4, g5⟩
    · rintro c st2 ⟨rfl, l, rfl, g2, g4, g5⟩
      dsimp only
      rw [moveDown'_eq]
      have hb := fun j => R_bubble (rk := rk) (xs := arrOf st2) (src := lo + k) (d := lo + k - (lo + l)) (by omega) (by omega) j
      refine wpS_bind (wpS_modify (wpS_pure ⟨rfl, W.trans ⟨⟨rfl, rfl, rfl, bubble_perm _ _ _⟩, fun j hj => ?_⟩, fun i j hij hj => ?_⟩))
      · show (bubble (arrOf st2) (lo + k) (lo + k - (lo + l)))[j]? = _
        rw [getElem?_bubble (by omega) _ (by omega), if_neg (by omega), if_neg (by omega)]
      · show R rk (bubble (arrOf st2) (lo + k) (lo + k - (lo + l))) (lo + i) ≤ R rk (bubble (arrOf st2) (lo + k) (lo + k - (lo + l))) (lo + j)
        rw [hb, hb]
        have ss : ∀ p q, p ≤ q → q < k → R rk (arrOf st2) (lo + p) ≤ R rk (arrOf st2) (lo + q) := s1
        by_cases i1 : i < l
        · rw [if_neg (by omega), if_neg (by omega)]
          by_cases j1 : j < l
          · rw [if_neg (by omega), if_neg (by omega)]
            exact ss i j hij (by omega)
          · by_cases j2 : j = l
            · rw [if_pos (by omega)]
              exact g4 i i1
            · rw [if_neg (by omega), if_pos (by omega), show lo + j - 1 = lo + (j - 1) by omega]
              exact ss i (j - 1) (by omega) (by omega)
        · by_cases i2 : i = l
          · rw [if_pos (by omega)]
            by_cases j2 : j = l
            · rw [if_pos (by omega)]
              exact Nat.le_refl _
            · rw [if_neg (by omega), if_pos (by omega), show lo + j - 1 = lo + (j - 1) by omega]
              exact Nat.le_of_lt (g5 (j - 1) (by omega) (by omega))
          · rw [if_neg (by omega), if_pos (by omega), if_neg (by omega), if_pos (by omega), show lo + j - 1 = lo + (j - 1) by omega, show lo + i - 1 = lo + (i - 1) by omega]
            exact ss (i - 1) (j - 1) (by omega) (by omega)
  · by_cases z : 1 ≤ ok
    · rw [Nat.max_eq_left z] at h2
      exact hs i j h1 h2
    · have : i = j := by omega
      subst this
      exact Nat.le_refl _
  · rintro c st1 ⟨rfl, W, s1⟩
    exact wpS_pure (h st1 W fun i j h1 h2 => s1 i j h1 (by omega))
end
end ZS

namespace ZS
open PySem PyProof.Rows
def crAsc (l0 a0 q0 : Nat) : StateT SortSt Sem (Option Nat) := do
  let mut n := a0
  for _ in [a0:q0] do
    let some sm ← ltAt' (l0 + n) (l0 + n - 1) | return none
    if sm then break
    n := n + 1
  return some n
def crTail (l0 a0 q0 : Nat) : StateT SortSt Sem (Option Nat) := do
  reverseSlice' l0 (l0 + a0)
  crAsc l0 a0 q0
def crDesc (l0 a0 q0 : Nat) : StateT SortSt Sem (Option Nat) := do
  rule "list.sort.descending-run"
  let mut n := a0 + 1
  let mut eq := 0
  for _ in [n:q0] do
    let some sm ← ltAt' (l0 + n) (l0 + n - 1) | return none
    if sm then
      if eq > 0 then reverseSlice' (l0 + n - (eq + 1)) (l0 + n)
      eq := 0
    else
      let some la ← ltAt' (l0 + n - 1) (l0 + n) | return none
      if la then break
      eq := eq + 1
    n := n + 1
  if eq > 0 then
    reverseSlice' (l0 + n - (eq + 1)) (l0 + n)
    crTail l0 n q0
  else crTail l0 n q0
theorem cr_eq (l0 q0 : Nat) : countRun' l0 q0 = (do
  let mut n := 1
  for _ in [1:q0] do
    let some sm ← ltAt' (l0 + n) (l0 + n - 1) | return none
    if sm then break
    n := n + 1
  if n == q0 then return some n
  if n > 1 then
    let some ro ← ltAt' l0 (l0 + n - 1) | return none
    if ro then return some n
    reverseSlice' l0 (l0 + n)
    crDesc l0 n q0
  else crDesc l0 n q0) := rfl
section
variable {M : Model} {A : Around} {E : Value → Shared → Prop} {s : Shared} {kd : SortKind} {rk : Keyed → Nat} {S : Keyed → Prop}
theorem SrtT.snoc {xs : Array Keyed} {lo n : Nat} (h : SrtT rk xs lo n) (h1 : 1 ≤ n) (k : R rk xs (lo + n - 1) ≤ R rk xs (lo + n)) : SrtT rk xs lo (n + 1) := fun i j hij hj => by
  by_cases z : j < n
  · exact h i j hij z
  · have e : j = n := by omega
    subst e
    by_cases w : i = j
    · subst w; exact Nat.le_refl _
    · have := h i (j - 1) (by omega) (by omega)
      rw [show lo + (j - 1) = lo + j - 1 by omega] at this
      exact Nat.le_trans this k
theorem wp_crAsc {l0 a0 q0 : Nat} {st : SortSt} {Q : Option Nat → SortSt → Prop} (L : LtOk M A E s kd rk S) (hk : kindOf st = kd) (hS : AllS S st) (hsz : l0 + q0 ≤ (arrOf st).size) (h1 : 1 ≤ a0) (h2 : a0 ≤ q0) (hs : SrtT rk (arrOf st) l0 a0)
    (h : ∀ n, a0 ≤ n → n ≤ q0 → SrtT rk (arrOf st) l0 n → Q (some n) st) : wpS M A E s (crAsc l0 a0 q0) Q st := by
  unfold crAsc
  dsimp only
  refine wpS_bind (wpS_mono (wpS_forRange (I := fun x c st' => st' = st ∧ c = (none, x) ∧ SrtT rk (arrOf st) l0 x) (Q := fun c st' => st' = st ∧ ∃ n, c = (none, n) ∧ a0 ≤ n ∧ n ≤ q0 ∧ SrtT rk (arrOf st) l0 n) ?_ ?_ ⟨rfl, rfl, hs⟩) ?_)
  · rintro x c st1 hx1 hx2 ⟨rfl, rfl, s1⟩
    dsimp only
    refine wpS_bind (wp_ltAt L hk hS (by omega) (by omega) ?_)
    dsimp only
    by_cases w : R rk (arrOf st1) (l0 + x) < R rk (arrOf st1) (l0 + x - 1)
    · rw [decide_eq_true w, if_pos rfl]
      exact wpS_pure ⟨rfl, x, rfl, hx1, by omega, s1⟩
    · rw [decide_eq_false w, if_neg (by simp)]
      exact wpS_pure ⟨rfl, rfl, s1.snoc (by omega) (by omega)⟩
  · rintro c st1 ⟨rfl, rfl, s1⟩
    rw [Nat.max_eq_right h2] at s1 ⊢
    exact ⟨rfl, q0, rfl, h2, Nat.le_refl _, s1⟩
  · rintro c st1 ⟨rfl, n, rfl, g1, g2, g3⟩
    exact wpS_pure (h n g1 g2 g3)
theorem wp_crTail {l0 a0 q0 : Nat} {st : SortSt} {Q : Option Nat → SortSt → Prop} (L : LtOk M A E s kd rk S) (hk : kindOf st = kd) (hS : AllS S st) (hsz : l0 + q0 ≤ (arrOf st).size) (h1 : 1 ≤ a0) (h2 : a0 ≤ q0) (hs : DecT rk (arrOf st) l0 a0)
    (h : ∀ n st', a0 ≤ n → n ≤ q0 → Within st st' l0 q0 → SrtT rk (arrOf st') l0 n → Q (some n) st') : wpS M A E s (crTail l0 a0 q0) Q st := by
  unfold crTail
  refine wpS_bind (wp_rev (rk := rk) (lo := l0) (n := q0) (Nat.le_refl _) (by omega) (by omega) fun st1 W1 r1 => ?_)
  refine wp_crAsc L (W1.kp.k.trans hk) (hS.kp W1.kp) (by rw [W1.kp.size]; exact hsz) h1 h2 (fun i j hij hj => ?_) fun n g1 g2 g3 => h n st1 g1 g2 W1 g3
  rw [r1, r1, if_pos (by omega), if_pos (by omega), show l0 + (l0 + a0) - 1 - (l0 + i) = l0 + (a0 - 1 - i) by omega, show l0 + (l0 + a0) - 1 - (l0 + j) = l0 + (a0 - 1 - j) by omega]
  exact hs (a0 - 1 - j) (a0 - 1 - i) (by omega) (by omega)
/-- a reversed part of like ranks changes none -/
theorem wp_revEq {i j lo n : Nat} {st : SortSt} {Q : Unit → SortSt → Prop} (hl : lo ≤ i) (hj : j ≤ lo + n) (hsz : j ≤ (arrOf st).size) (heq : ∀ k, i ≤ k → k < j → R rk (arrOf st) k = R rk (arrOf st) (j - 1)) (h : ∀ st', Within st st' lo n → (∀ k, R rk (arrOf st') k = R rk (arrOf st) k) → Q () st') : wpS M A E s (reverseSlice' i j) Q st := by
  refine wp_rev (rk := rk) hl hj hsz fun st1 W r1 => h st1 W fun k => ?_
  rw [r1]
  split
  · rename_i z
    rw [heq k z.1 z.2, heq (i + j - 1 - k) (by omega) (by omega)]
  · rfl
theorem DecT.snoc {xs : Array Keyed} {lo n : Nat} (h : DecT rk xs lo n) (h1 : 1 ≤ n) (k : R rk xs (lo + n) ≤ R rk xs (lo + n - 1)) : DecT rk xs lo (n + 1) := fun i j hij hj => by
  by_cases z : j < n
  · exact h i j hij z
  · have e : j = n := by omega
    subst e
    by_cases w : i = j
    · subst w; exact Nat.le_refl _
    · have := h i (j - 1) (by omega) (by omega)
      rw [show lo + (j - 1) = lo + j - 1 by omega] at this
      exact Nat.le_trans k this
theorem wp_crDesc {l0 a0 q0 : Nat} {st : SortSt} {Q : Option Nat → SortSt → Prop} (L : LtOk M A E s kd rk S) (hk : kindOf st = kd) (hS : AllS S st) (hsz : l0 + q0 ≤ (arrOf st).size) (h2 : a0 + 1 ≤ q0) (hs : DecT rk (arrOf st) l0 (a0 + 1)) (hr : ∀ x, wpAny M A (rule x) (fun _ s' => s' = s) E s)
    (h : ∀ n st', 1 ≤ n → n ≤ q0 → Within st st' l0 q0 → SrtT rk (arrOf st') l0 n → Q (some n) st') : wpS M A E s (crDesc l0 a0 q0) Q st := by
  unfold crDesc
  refine wpS_bind (wpS_lift (wpAny_mono (hr _) (fun _ _ z => ⟨z, ?_⟩) fun _ _ z => z))
  dsimp only
  refine wpS_bind (wpS_mono (wpS_forRange (I := fun x c st' => ∃ eq, c = (none, x, eq) ∧ Within st st' l0 q0 ∧ DecT rk (arrOf st') l0 x ∧ eq + 1 ≤ x ∧ ∀ k, x - 1 - eq ≤ k → k < x → R rk (arrOf st') (l0 + k) = R rk (arrOf st') (l0 + (x - 1)))
    (Q := fun c st' => ∃ n eq, c = (none, n, eq) ∧ a0 + 1 ≤ n ∧ n ≤ q0 ∧ Within st st' l0 q0 ∧ DecT rk (arrOf st') l0 n ∧ eq + 1 ≤ n ∧ ∀ k, n - 1 - eq ≤ k → k < n → R rk (arrOf st') (l0 + k) = R rk (arrOf st') (l0 + (n - 1))) ?_ ?_ ⟨0, rfl, .rfl', hs, by omega, fun k h1 h2 => by rw [show k = a0 + 1 - 1 by omega]⟩) ?_)
  · rintro x c st1 hx1 hx2 ⟨eq, rfl, W, d1, e1, ev⟩
    dsimp only
    have hk1 := W.kp.k.trans hk
    have hS1 := hS.kp W.kp
    have sz1 := W.kp.size
    refine wpS_bind (wp_ltAt L hk1 hS1 (by omega) (by omega) ?_)
    dsimp only
    by_cases w : R rk (arrOf st1) (l0 + x) < R rk (arrOf st1) (l0 + x - 1)
    · rw [decide_eq_true w, if_pos rfl]
      have fin : ∀ st2, Within st st2 l0 q0 → (∀ k, R rk (arrOf st2) k = R rk (arrOf st1) k) → ∃ eq', ((none, x + 1, 0) : Option (Option Nat) × Nat × Nat) = (none, x + 1, eq') ∧ Within st st2 l0 q0 ∧ DecT rk (arrOf st2) l0 (x + 1) ∧ eq' + 1 ≤ x + 1 ∧ ∀ k, x + 1 - 1 - eq' ≤ k → k < x + 1 → R rk (arrOf st2) (l0 + k) = R rk (arrOf st2) (l0 + (x + 1 - 1)) := fun st2 W2 r2 => by
        refine ⟨0, rfl, W2, fun i j hij hj => ?_, by omega, fun k h1 h2 => by rw [show k = x + 1 - 1 by omega]⟩
        rw [r2, r2]
        exact d1.snoc (by omega) (by omega) i j hij hj
      by_cases z : eq > 0
      · rw [if_pos z]
        refine wpS_bind (wp_revEq (rk := rk) (lo := l0) (n := q0) (by omega) (by omega) (by omega) (fun k h1 h2 => ?_) fun st2 W2 r2 => wpS_pure (fin st2 (W.trans W2) r2))
        have := ev (k - l0) (by omega) (by omega)
        rw [show l0 + (k - l0) = k by omega, show l0 + (x - 1) = l0 + x - 1 by omega] at this
        exact this
      · rw [if_neg z]
        exact wpS_pure (fin st1 W fun _ => rfl)
    · rw [decide_eq_false w, if_neg (by simp)]
      refine wpS_bind (wp_ltAt L hk1 hS1 (by omega) (by omega) ?_)
      dsimp only
      by_cases v : R rk (arrOf st1) (l0 + x - 1) < R rk (arrOf st1) (l0 + x)
      · rw [decide_eq_true v, if_pos rfl]
        exact wpS_pure ⟨x, eq, rfl, hx1, by omega, W, d1, e1, ev⟩
      · rw [decide_eq_false v, if_neg (by simp)]
        have ee : R rk (arrOf st1) (l0 + x) = R rk (arrOf st1) (l0 + x - 1) := by omega
        refine wpS_pure ⟨eq + 1, rfl, W, d1.snoc (by omega) (by omega), by omega, fun k h1 h2 => ?_⟩
        rw [show l0 + (x + 1 - 1) = l0 + x by omega]
        by_cases y : k = x
        · rw [y]
        · have := ev k (by omega) (by omega)
          rw [show l0 + (x - 1) = l0 + x - 1 by omega] at this
          omega
  · rintro c st1 ⟨eq, rfl, W, d1, e1, ev⟩
    rw [Nat.max_eq_right h2] at d1 e1 ev ⊢
    exact ⟨q0, eq, rfl, h2, Nat.le_refl _, W, d1, e1, ev⟩
  · rintro c st1 ⟨n, eq, rfl, g1, g2, W, d1, e1, ev⟩
    have sz1 := W.kp.size
    dsimp only
    by_cases z : eq > 0
    · rw [if_pos z]
      refine wpS_bind (wp_revEq (rk := rk) (lo := l0) (n := q0) (by omega) (by omega) (by omega) (fun k h1 h2 => ?_) fun st2 W2 r2 => ?_)
      · have := ev (k - l0) (by omega) (by omega)
        rw [show l0 + (k - l0) = k by omega, show l0 + (n - 1) = l0 + n - 1 by omega] at this
        exact this
      · refine wp_crTail L ((W.trans W2).kp.k.trans hk) (hS.kp (W.trans W2).kp) (by rw [(W.trans W2).kp.size]; exact hsz) (by omega) g2 (fun i j hij hj => by rw [r2, r2]; exact d1 i j hij hj) fun m st3 k1 k2 W3 s3 => h m st3 (by omega) k2 ((W.trans W2).trans W3) s3
    · rw [if_neg z]
      exact wp_crTail L (W.kp.k.trans hk) (hS.kp W.kp) (by rw [sz1]; exact hsz) (by omega) g2 d1 fun m st3 k1 k2 W3 s3 => h m st3 (by omega) k2 (W.trans W3) s3
theorem wp_countRun {l0 q0 : Nat} {st : SortSt} {Q : Option Nat → SortSt → Prop} (L : LtOk M A E s kd rk S) (hk : kindOf st = kd) (hS : AllS S st) (hsz : l0 + q0 ≤ (arrOf st).size) (h1 : 1 ≤ q0) (hr : ∀ x, wpAny M A (rule x) (fun _ s' => s' = s) E s)
    (h : ∀ n st', 1 ≤ n → n ≤ q0 → Within st st' l0 q0 → SrtT rk (arrOf st') l0 n → Q (some n) st') : wpS M A E s (countRun' l0 q0) Q st := by
  rw [cr_eq]
  dsimp only
  refine wpS_bind (wpS_mono (wpS_forRange (I := fun x c st' => st' = st ∧ c = (none, x) ∧ SrtT rk (arrOf st) l0 x) (Q := fun c st' => st' = st ∧ ∃ n, c = (none, n) ∧ 1 ≤ n ∧ n ≤ q0 ∧ SrtT rk (arrOf st) l0 n ∧ (n = q0 ∨ R rk (arrOf st) (l0 + n) < R rk (arrOf st) (l0 + n - 1))) ?_ ?_ ⟨rfl, rfl, fun i j h1 h2 => by rw [show i = j by omega]; exact Nat.le_refl _⟩) ?_)
  · rintro x c st1 hx1 hx2 ⟨rfl, rfl, s1⟩
    dsimp only
    refine wpS_bind (wp_ltAt L hk hS (by omega) (by omega) ?_)
    dsimp only
    by_cases w : R rk (arrOf st1) (l0 + x) < R rk (arrOf st1) (l0 + x - 1)
    · rw [decide_eq_true w, if_pos rfl]
      exact wpS_pure ⟨rfl, x, rfl, hx1, by omega, s1, .inr w⟩
    · rw [decide_eq_false w, if_neg (by simp)]
      exact wpS_pure ⟨rfl, rfl, s1.snoc (by omega) (by omega)⟩
  · rintro c st1 ⟨rfl, rfl, s1⟩
    rw [Nat.max_eq_right h1] at s1 ⊢
    exact ⟨rfl, q0, rfl, h1, Nat.le_refl _, s1, .inl rfl⟩
  · rintro c st1 ⟨rfl, n, rfl, g1, g2, g3, g4⟩
    dsimp only
    by_cases e : n = q0
    · rw [if_pos (by rw [e]; exact beq_self_eq_true _)]
      exact wpS_pure (h n st1 g1 g2 .rfl' g3)
    rw [if_neg (by simpa using e)]
    have lt := g4.resolve_left e
    by_cases z : n > 1
    · rw [if_pos z]
      refine wpS_bind (wp_ltAt L hk hS (by omega) (by omega) ?_)
      dsimp only
      by_cases w : R rk (arrOf st1) l0 < R rk (arrOf st1) (l0 + n - 1)
      · rw [decide_eq_true w, if_pos rfl]
        exact wpS_pure (h n st1 g1 g2 .rfl' g3)
      · rw [decide_eq_false w, if_neg (by simp)]
        have all : ∀ k, l0 ≤ k → k < l0 + n → R rk (arrOf st1) k = R rk (arrOf st1) (l0 + n - 1) := fun k h1 h2 => by
          have a := g3 0 (k - l0) (Nat.zero_le _) (by omega)
          have b := g3 (k - l0) (n - 1) (by omega) (by omega)
          rw [show l0 + (k - l0) = k by omega] at a b
          rw [show l0 + (n - 1) = l0 + n - 1 by omega] at b
          rw [Nat.add_zero] at a
          omega
        refine wpS_bind (wp_revEq (rk := rk) (lo := l0) (n := q0) (Nat.le_refl _) (by omega) (by omega) all fun st2 W2 r2 => ?_)
        refine wp_crDesc L (W2.kp.k.trans hk) (hS.kp W2.kp) (by rw [W2.kp.size]; exact hsz) (by omega) (fun i j hij hj => ?_) hr fun m st3 k1 k2 W3 s3 => h m st3 k1 k2 (W2.trans W3) s3
        rw [r2, r2]
        by_cases y : j < n
        · rw [all (l0 + i) (by omega) (by omega), all (l0 + j) (by omega) (by omega)]
          exact Nat.le_refl _
        · rw [show j = n by omega]
          by_cases y2 : i < n
          · rw [all (l0 + i) (by omega) (by omega)]; exact Nat.le_of_lt lt
          · rw [show i = n by omega]; exact Nat.le_refl _
    · rw [if_neg z]
      have n1 : n = 1 := by omega
      subst n1
      refine wp_crDesc L hk hS hsz (by omega) (fun i j hij hj => ?_) hr fun m st3 k1 k2 W3 s3 => h m st3 k1 k2 W3 s3
      by_cases y : i = j
      · rw [y]; exact Nat.le_refl _
      · rw [show i = 0 by omega, show j = 1 by omega]
        exact Nat.le_of_lt lt
end
end ZS

namespace ZS
open PySem PyProof.Rows
def wrote (xs : Array Keyed) (q : Nat) (ys : Array Keyed) : Array Keyed := ys.toList.zipIdx.foldl (fun u (p, j) => u.setIfInBounds (q + j) p) xs
theorem mAt_eq (i : Nat) : mergeAt' i = (do
  let st ← get
  let (some (s1, n1, pw), some (s2, n2, _)) := ((pendingOf st)[i]?, (pendingOf st)[i + 1]?) | unsupported "internal:list.sort.pending"
  set (SortSt.mk' (kindOf st) (arrOf st) (((pendingOf st).setIfInBounds i (s1, n1 + n2, pw)).eraseIdxIfInBounds (i + 1)) (gallopOf st) (failedOf st))
  let some k ← gal false (← elem' (arrOf st) s2) (arrOf st) s1 n1 0 | return false
  let (s1, n1) := (s1 + k, n1 - k)
  if n1 == 0 then return true
  let some n2 ← gal true (← elem' (arrOf st) (s1 + n1 - 1)) (arrOf st) s2 n2 (n2 - 1) | return false
  if n2 == 0 then return true
  let x := (arrOf st).extract s1 s2
  let y := (arrOf st).extract s2 (s2 + n2)
  let mm ← if n1 ≤ n2 then mLo x y else mHi x y
  modify fun z => setArr z (wrote (arrOf z) s1 mm)
  return (failedOf (← get)).isNone) := rfl
theorem wrote_aux (q : Nat) : ∀ (l : List Keyed) (n : Nat) (xs : Array Keyed), q + n + l.length ≤ xs.size → ((l.zipIdx n).foldl (fun u (p, j) => u.setIfInBounds (q + j) p) xs).toList = xs.toList.take (q + n) ++ (l ++ xs.toList.drop (q + n + l.length))
  | [], n, xs, _ => by
    simp
  | p :: t, n, xs, h => by
    rw [List.length_cons] at h
    rw [List.zipIdx_cons, List.foldl_cons, wrote_aux q t (n + 1) _ (by rw [Array.size_setIfInBounds]; omega), Array.toList_setIfInBounds]
    have hl : q + n < xs.toList.length := by rw [Array.length_toList]; omega
    rw [show q + (n + 1) = q + n + 1 by omega, List.take_add_one, List.take_set_of_le (Nat.le_refl _), List.getElem?_set_self hl, List.drop_set_of_lt (by omega), List.length_cons, show q + n + 1 + t.length = q + n + (t.length + 1) by omega]
    simp
theorem wrote_list {xs ys : Array Keyed} {q : Nat} (h : q + ys.size ≤ xs.size) : (wrote xs q ys).toList = xs.toList.take q ++ (ys.toList ++ xs.toList.drop (q + ys.size)) := by
  have := wrote_aux q ys.toList 0 xs (by rw [Array.length_toList]; exact h)
  rw [Array.length_toList] at this
  exact this
theorem tail_get {a b c : List Keyed} {i : Nat} (h : a.length = b.length) (hi : a.length ≤ i) : (a ++ c)[i]? = (b ++ c)[i]? := by rw [List.getElem?_append_right hi, List.getElem?_append_right (by omega), h]
section
variable {rk : Keyed → Nat}
theorem R_get {xs : Array Keyed} {i : Nat} {p : Keyed} (h : xs.toList[i]? = some p) : R rk xs i = rk p := by
  unfold R
  rw [← Array.getElem?_toList, h]
theorem srt_list {xs : Array Keyed} {lo n : Nat} (h : SrtT rk xs lo n) : Srt rk ((xs.toList.drop lo).take n) := by
  refine List.pairwise_iff_getElem.mpr fun i j hi hj hij => ?_
  have hj' : j < n := by rw [List.length_take] at hj; omega
  have ei := List.getElem?_eq_getElem hi
  have ej := List.getElem?_eq_getElem hj
  rw [List.getElem?_take, if_pos (by omega), List.getElem?_drop] at ei ej
  have := h i j (by omega) hj'
  rw [R_get ei, R_get ej] at this
  exact this
theorem list_srt {xs : Array Keyed} {lo n : Nat} (hn : lo + n ≤ xs.size) (h : Srt rk ((xs.toList.drop lo).take n)) : SrtT rk xs lo n := by
  intro i j hij hj
  by_cases e : i = j
  · rw [e]; exact Nat.le_refl _
  have len : ((xs.toList.drop lo).take n).length = n := by rw [List.length_take, List.length_drop, Array.length_toList]; omega
  have hi' : i < ((xs.toList.drop lo).take n).length := by omega
  have hj' : j < ((xs.toList.drop lo).take n).length := by omega
  have := List.pairwise_iff_getElem.mp h i j hi' hj' (by omega)
  have ei := List.getElem?_eq_getElem hi'
  have ej := List.getElem?_eq_getElem hj'
  rw [List.getElem?_take, if_pos (by omega), List.getElem?_drop] at ei ej
  rw [R_get ei, R_get ej]
  exact this
theorem srt_join {xs : Array Keyed} {lo n m : Nat} (h1 : SrtT rk xs lo n) (h2 : SrtT rk xs (lo + n) m) (h : ∀ i j, i < n → j < m → R rk xs (lo + i) ≤ R rk xs (lo + n + j)) : SrtT rk xs lo (n + m) := by
  intro i j hij hj
  by_cases z : j < n
  · exact h1 i j hij z
  · by_cases w : i < n
    · have := h i (j - n) w (by omega)
      rw [show lo + n + (j - n) = lo + j by omega] at this
      exact this
    · have := h2 (i - n) (j - n) (by omega) (by omega)
      rw [show lo + n + (j - n) = lo + j by omega, show lo + n + (i - n) = lo + i by omega] at this
      exact this
theorem cut_part {T : List Keyed} {lo k n : Nat} (h : k ≤ n) : (T.drop lo).take n = (T.drop lo).take k ++ (T.drop (lo + k)).take (n - k) := by
  conv => lhs; rw [show n = k + (n - k) by omega, List.take_add, List.drop_drop]
/-- the array behind a merge of the middle -/
theorem merged {xs r : Array Keyed} {lo k n m c : Nat} (hk : k ≤ n) (hc : c ≤ m) (hsz : lo + n + m ≤ xs.size) (o1 : SrtT rk xs lo n) (o2 : SrtT rk xs (lo + n) m)
    (a1 : ∀ p ∈ (xs.toList.drop lo).take k, ∀ q ∈ (xs.toList.drop (lo + n)).take m, rk p ≤ rk q) (a2 : ∀ p ∈ (xs.toList.drop lo).take n, ∀ q ∈ (xs.toList.drop (lo + n + c)).take (m - c), rk p ≤ rk q)
    (hr : Res rk ((xs.toList.drop (lo + k)).take (n - k)) ((xs.toList.drop (lo + n)).take c) r.toList) :
    (wrote xs (lo + k) r).Perm xs ∧ (∀ i, (i < lo ∨ lo + n + m ≤ i) → (wrote xs (lo + k) r)[i]? = xs[i]?) ∧ SrtT rk (wrote xs (lo + k) r) lo (n + m) := by
  have lr : r.size = n - k + c := by
    have := hr.1.length_eq
    rw [List.length_append, List.length_take, List.length_take, List.length_drop, List.length_drop, Array.length_toList, Array.length_toList] at this
    omega
  have wl : (wrote xs (lo + k) r).toList = xs.toList.take lo ++ ((xs.toList.drop lo).take k ++ (r.toList ++ ((xs.toList.drop (lo + n + c)).take (m - c) ++ xs.toList.drop (lo + n + m)))) := by
    rw [wrote_list (by omega), List.take_add, List.append_assoc, lr, show lo + k + (n - k + c) = lo + n + c by omega]
    congr 3
    have := (List.take_append_drop (m - c) (xs.toList.drop (lo + n + c))).symm
    rw [List.drop_drop, show lo + n + c + (m - c) = lo + n + m by omega] at this
    exact this
  have xl : xs.toList = xs.toList.take lo ++ ((xs.toList.drop lo).take k ++ ((xs.toList.drop (lo + k)).take (n - k) ++ (xs.toList.drop (lo + n)).take c ++ ((xs.toList.drop (lo + n + c)).take (m - c) ++ xs.toList.drop (lo + n + m)))) := by
    have e1 := (List.take_append_drop lo xs.toList).symm
    have e2 := (List.take_append_drop k (xs.toList.drop lo)).symm
    have e3 := (List.take_append_drop (n - k) (xs.toList.drop (lo + k))).symm
    have e4 := (List.take_append_drop c (xs.toList.drop (lo + n))).symm
    have e5 := (List.take_append_drop (m - c) (xs.toList.drop (lo + n + c))).symm
    rw [List.drop_drop] at e2 e3 e4 e5
    rw [show lo + k + (n - k) = lo + n by omega] at e3
    rw [show lo + n + c + (m - c) = lo + n + m by omega] at e5
    rw [List.append_assoc, ← e5, ← e4, ← e3, ← e2, ← e1]
  have sz : (wrote xs (lo + k) r).size = xs.size := by
    have := congrArg List.length wl
    have h2 := congrArg List.length xl
    have h3 := hr.1.length_eq
    simp only [List.length_append] at this h2 h3
    have e1 := @Array.length_toList _ (wrote xs (lo + k) r)
    have e2 := @Array.length_toList _ xs
    omega
  have X : (xs.toList.drop lo).take n = (xs.toList.drop lo).take k ++ (xs.toList.drop (lo + k)).take (n - k) := cut_part hk
  have Y : (xs.toList.drop (lo + n)).take m = (xs.toList.drop (lo + n)).take c ++ (xs.toList.drop (lo + n + c)).take (m - c) := cut_part hc
  have sX := srt_list o1
  have sY := srt_list o2
  rw [X] at sX
  rw [Y] at sY
  obtain ⟨sx1, sx2, sx⟩ := List.pairwise_append.mp sX
  obtain ⟨sy1, sy2, sy⟩ := List.pairwise_append.mp sY
  refine ⟨Array.perm_iff_toList_perm.mpr ?_, fun i hi => ?_, list_srt (by omega) ?_⟩
  · rw [wl]
    conv => rhs; rw [xl]
    exact List.Perm.append_left _ (List.Perm.append_left _ (List.Perm.append_right _ hr.1))
  · rw [← Array.getElem?_toList, ← Array.getElem?_toList, wl]
    conv => rhs; rw [xl]
    have hl1 : (xs.toList.take lo).length = lo := by rw [List.length_take, Array.length_toList]; omega
    rcases hi with hi | hi
    · rw [List.getElem?_append_left (by omega), List.getElem?_append_left (by omega)]
    · have hl2 : ((xs.toList.drop lo).take k).length = k := by rw [List.length_take, List.length_drop, Array.length_toList]; omega
      have hl3 : r.toList.length = n - k + c := by rw [Array.length_toList]; exact lr
      have hl4 := hr.1.length_eq
      rw [← List.append_assoc, ← List.append_assoc]
      conv => rhs; rw [← List.append_assoc, ← List.append_assoc]
      refine tail_get ?_ ?_
      · rw [List.length_append, List.length_append, List.length_append, List.length_append, hl4]
      · rw [List.length_append, List.length_append, hl1, hl2, hl3]; omega
  · have hl1 : (xs.toList.take lo).length = lo := by rw [List.length_take, Array.length_toList]; omega
    have e : ((wrote xs (lo + k) r).toList.drop lo).take (n + m) = (xs.toList.drop lo).take k ++ (r.toList ++ (xs.toList.drop (lo + n + c)).take (m - c)) := by
      rw [wl, List.drop_left' hl1, ← List.append_assoc, ← List.append_assoc, List.take_left', List.append_assoc]
      rw [List.length_append, List.length_append, List.length_take, List.length_take, List.length_drop, List.length_drop, Array.length_toList, Array.length_toList]
      omega
    rw [e]
    have mr : ∀ q ∈ r.toList, q ∈ (xs.toList.drop (lo + k)).take (n - k) ∨ q ∈ (xs.toList.drop (lo + n)).take c := fun q hq => List.mem_append.mp (hr.1.mem_iff.mp hq)
    refine List.pairwise_append.mpr ⟨sx1, List.pairwise_append.mpr ⟨hr.2, sy2, fun p hp q hq => ?_⟩, fun p hp q hq => ?_⟩
    · rcases mr p hp with hp | hp
      · exact a2 p (by rw [X]; exact List.mem_append_right _ hp) q hq
      · exact sy p hp q hq
    · rcases List.mem_append.mp hq with hq | hq
      · rcases mr q hq with hq | hq
        · exact sx p hp q hq
        · exact a1 p hp q (by rw [Y]; exact List.mem_append_left _ hq)
      · exact a1 p hp q (by rw [Y]; exact List.mem_append_right _ hq)
end
end ZS

namespace ZS
open PySem PyProof.Rows
theorem pend_at {α : Type} {ps : Array α} {pre post : List α} {x y : α} (h : ps.toList = pre ++ x :: y :: post) : ps[pre.length]? = some x ∧ ps[pre.length + 1]? = some y := by
  rw [← Array.getElem?_toList, ← Array.getElem?_toList, h]
  constructor
  · rw [List.getElem?_append_right (Nat.le_refl _), Nat.sub_self]; rfl
  · rw [List.getElem?_append_right (by omega), Nat.add_sub_cancel_left]; rfl
theorem pend_join {α : Type} {ps : Array α} {pre post : List α} {x y z : α} (h : ps.toList = pre ++ x :: y :: post) : ((ps.setIfInBounds pre.length z).eraseIdxIfInBounds (pre.length + 1)).toList = pre ++ z :: post := by
  have hs : ps.size = pre.length + (post.length + 2) := by rw [← Array.length_toList, h, List.length_append]; rfl
  have hb : pre.length + 1 < (ps.setIfInBounds pre.length z).size := by rw [Array.size_setIfInBounds]; omega
  unfold Array.eraseIdxIfInBounds
  rw [dif_pos hb, Array.toList_eraseIdx, Array.toList_setIfInBounds, h]
  rw [List.set_append_right _ _ (Nat.le_refl _), Nat.sub_self, List.set_cons_zero, List.eraseIdx_append_of_length_le (by omega), Nat.add_sub_cancel_left]
  rfl
section
variable {M : Model} {A : Around} {E : Value → Shared → Prop} {s : Shared} {kd : SortKind} {rk : Keyed → Nat} {S : Keyed → Prop}
theorem wp_put {σ : Type} {v st : σ} {Q : PUnit → σ → Prop} (q : Q ⟨⟩ v) : wpS M A E s (set v : StateT σ Sem PUnit) Q st := by
  unfold wpS
  rw [StateT.run_set]
  exact wpAny_pure ⟨rfl, q⟩
/-- how two neighbours are put together -/
structure Mgd (rk : Keyed → Nat) (st st' : SortSt) (lo n : Nat) (ps : List (Nat × Nat × Nat)) : Prop where
  k : kindOf st' = kindOf st
  f : failedOf st' = none
  p : (pendingOf st').toList = ps
  a : (arrOf st').Perm (arrOf st)
  out : ∀ i, (i < lo ∨ lo + n ≤ i) → (arrOf st')[i]? = (arrOf st)[i]?
  srt : SrtT rk (arrOf st') lo n
theorem wp_mAt {pre post : List (Nat × Nat × Nat)} {s1 n1 pw n2 p2 : Nat} {st : SortSt} {Q : Bool → SortSt → Prop} (L : LtOk M A E s kd rk S) (hk : kindOf st = kd) (hS : AllS S st) (hf : failedOf st = none) (hr : ∀ x, wpAny M A (rule x) (fun _ s' => s' = s) E s)
    (hp : (pendingOf st).toList = pre ++ (s1, n1, pw) :: (s1 + n1, n2, p2) :: post) (h1 : 1 ≤ n1) (h2 : 1 ≤ n2) (hsz : s1 + n1 + n2 ≤ (arrOf st).size) (o1 : SrtT rk (arrOf st) s1 n1) (o2 : SrtT rk (arrOf st) (s1 + n1) n2)
    (h : ∀ st', Mgd rk st st' s1 (n1 + n2) (pre ++ (s1, n1 + n2, pw) :: post) → Q true st') : wpS M A E s (mergeAt' pre.length) Q st := by
  rw [mAt_eq]
  refine wpS_bind (wpS_get ?_)
  dsimp only
  obtain ⟨e1, e2⟩ := pend_at hp
  rw [e1, e2]
  dsimp only
  refine wpS_bind (wp_put ?_)
  generalize hst1 : SortSt.mk' (kindOf st) (arrOf st) (((pendingOf st).setIfInBounds pre.length (s1, n1 + n2, pw)).eraseIdxIfInBounds (pre.length + 1)) (gallopOf st) (failedOf st) = st1
  have k1 : kindOf st1 = kd := by rw [← hst1]; exact hk
  have a1 : arrOf st1 = arrOf st := by rw [← hst1]
  have f1 : failedOf st1 = none := by rw [← hst1]; exact hf
  have p1 : (pendingOf st1).toList = pre ++ (s1, n1 + n2, pw) :: post := by rw [← hst1]; exact pend_join hp
  have SA : ∀ (i : Nat) p, (arrOf st)[i]? = some p → S p := fun i p e => hS.at e
  have gt : ∀ i, i < (arrOf st).size → ∃ p, (arrOf st)[i]? = some p := fun i hi => ⟨_, Array.getElem?_eq_getElem hi⟩
  have RR : ∀ {i : Nat} {p : Keyed}, (arrOf st)[i]? = some p → R rk (arrOf st) i = rk p := fun {i p} e => by unfold R; rw [e]
  obtain ⟨ky, hky⟩ := gt (s1 + n1) (by omega)
  have stay : SrtT rk (arrOf st) s1 (n1 + n2) → Q true st1 := fun z => h st1 ⟨k1.trans hk.symm, f1, p1, by rw [a1], fun i _ => by rw [a1], by rw [a1]; exact z⟩
  refine wpS_bind (wp_elem hky (wpS_bind (wp_gal2 L k1 (by omega) (by omega) SA (SA _ _ hky) (fun i j p q hij hj hp hq => ?_) fun k hk1 g1 g2 => ?_)))
  · have := o1 i j hij hj
    rw [RR hp, RR hq] at this
    exact this
  dsimp only
  have below : ∀ i, i < k → ∀ j, j < n2 → R rk (arrOf st) (s1 + i) ≤ R rk (arrOf st) (s1 + n1 + j) := fun i hi j hj => by
    obtain ⟨p, hp⟩ := gt (s1 + i) (by omega)
    have a := g1 i p hi hp
    rw [if_neg (by simp)] at a
    have b := o2 0 j (Nat.zero_le _) hj
    rw [Nat.add_zero, RR hky] at b
    rw [RR hp]
    exact Nat.le_trans a b
  by_cases z : n1 - k = 0
  · rw [if_pos (by rw [z]; rfl)]
    exact wpS_pure (stay (srt_join o1 o2 fun i j hi hj => below i (by omega) j hj))
  rw [if_neg (by simpa using z)]
  obtain ⟨la, hla⟩ := gt (s1 + n1 - 1) (by omega)
  rw [show s1 + k + (n1 - k) - 1 = s1 + n1 - 1 by omega]
  refine wpS_bind (wp_elem hla (wpS_bind (wp_gal2 L k1 (by omega) (by omega) SA (SA _ _ hla) (fun i j p q hij hj hp hq => ?_) fun c hc1 d1 d2 => ?_)))
  · have := o2 i j hij hj
    rw [RR hp, RR hq] at this
    exact this
  dsimp only
  have above : ∀ i, i < n1 → ∀ j, c ≤ j → j < n2 → R rk (arrOf st) (s1 + i) ≤ R rk (arrOf st) (s1 + n1 + j) := fun i hi j hj hj2 => by
    obtain ⟨p, hp⟩ := gt (s1 + n1 + j) (by omega)
    have a := d2 j p hj hj2 hp
    rw [if_pos rfl] at a
    have b := o1 i (n1 - 1) (by omega) (by omega)
    rw [show s1 + (n1 - 1) = s1 + n1 - 1 by omega, RR hla] at b
    rw [RR hp]
    exact Nat.le_trans b a
  by_cases w : c = 0
  · rw [if_pos (by rw [w]; rfl)]
    exact wpS_pure (stay (srt_join o1 o2 fun i j hi hj => above i hi j (by omega) hj))
  rw [if_neg (by simpa using w)]
  have ex : ((arrOf st).extract (s1 + k) (s1 + n1)).toList = ((arrOf st).toList.drop (s1 + k)).take (n1 - k) := by
    have := ext_part (arrOf st) (s1 + k) (n1 - k)
    rw [show s1 + k + (n1 - k) = s1 + n1 by omega] at this
    exact this
  have ey := ext_part (arrOf st) (s1 + n1) c
  have zx : ((arrOf st).extract (s1 + k) (s1 + n1)).size = n1 - k := by rw [Array.size_extract]; omega
  have zy : ((arrOf st).extract (s1 + n1) (s1 + n1 + c)).size = c := by rw [Array.size_extract]; omega
  have T2 : ∀ {i : Nat} {p : Keyed}, (arrOf st).toList[i]? = some p → (arrOf st)[i]? = some p := fun {i p} e => by rw [Array.getElem?_toList] at e; exact e
  have sX := srt_list o1
  have sY := srt_list o2
  rw [cut_part hk1] at sX
  rw [cut_part hc1] at sY
  have H : LoOk rk S ((arrOf st).extract (s1 + k) (s1 + n1)) ((arrOf st).extract (s1 + n1) (s1 + n1 + c)) := by
    refine ⟨by rw [ex]; exact (List.pairwise_append.mp sX).2.1, by rw [ey]; exact (List.pairwise_append.mp sY).1, fun i p e => ?_, fun i p e => ?_, by omega, by omega, fun p e u hu => ?_, fun p e u hu => ?_⟩
    · rw [Array.getElem?_extract] at e
      split at e
      · exact SA _ _ e
      · cases e
    · rw [Array.getElem?_extract] at e
      split at e
      · exact SA _ _ e
      · cases e
    · rw [Array.getElem?_extract, if_pos (by omega), Nat.add_zero, hky] at e
      cases e
      rw [ex] at hu
      obtain ⟨j, hj, ej⟩ := mem_part hu
      have := g2 (k + j) u (by omega) (by omega) (by rw [← Nat.add_assoc]; exact T2 ej)
      rw [if_neg (by simp)] at this
      exact Nat.le_of_lt this
    · rw [zx, Array.getElem?_extract, if_pos (by omega), show s1 + k + (n1 - k - 1) = s1 + n1 - 1 by omega, hla] at e
      cases e
      rw [ey] at hu
      obtain ⟨j, hj, ej⟩ := mem_part hu
      have := d1 j u hj (T2 ej)
      rw [if_pos rfl] at this
      exact Nat.le_of_lt this
  have fin : ∀ r st2, Keep st1 st2 → Res rk ((arrOf st).extract (s1 + k) (s1 + n1)).toList ((arrOf st).extract (s1 + n1) (s1 + n1 + c)).toList r.toList → wpS M A E s (do
      modify fun z => setArr z (wrote (arrOf z) (s1 + k) r)
      let g ← get
      pure (failedOf g).isNone : StateT SortSt Sem Bool) Q st2 := fun r st2 K hres => by
    rw [ex, ey] at hres
    refine wpS_bind (wpS_modify (wpS_bind (wpS_get (wpS_pure ?_))))
    have hf2 : failedOf st2 = none := K.f.trans f1
    have aa : arrOf st2 = arrOf st := K.a.trans a1
    have q1 : ∀ p ∈ ((arrOf st).toList.drop s1).take k, ∀ q ∈ ((arrOf st).toList.drop (s1 + n1)).take n2, rk p ≤ rk q := fun p hp q hq => by
      obtain ⟨i, hi, ei⟩ := mem_part hp
      obtain ⟨j, hj, ej⟩ := mem_part hq
      have := below i hi j hj
      rw [RR (T2 ei), RR (T2 ej)] at this
      exact this
    have q2 : ∀ p ∈ ((arrOf st).toList.drop s1).take n1, ∀ q ∈ ((arrOf st).toList.drop (s1 + n1 + c)).take (n2 - c), rk p ≤ rk q := fun p hp q hq => by
      obtain ⟨i, hi, ei⟩ := mem_part hp
      obtain ⟨j, hj, ej⟩ := mem_part hq
      have := above i hi (c + j) (by omega) (by omega)
      rw [← Nat.add_assoc, RR (T2 ei), RR (T2 ej)] at this
      exact this
    obtain ⟨m1, m2, m3⟩ := merged (rk := rk) (xs := arrOf st) (r := r) (lo := s1) (k := k) (n := n1) (m := n2) (c := c) hk1 hc1 (by omega) o1 o2 q1 q2 hres
    · rw [show (failedOf (setArr st2 (wrote (arrOf st2) (s1 + k) r))).isNone = true by show (failedOf st2).isNone = true; rw [hf2]; rfl]
      refine h _ ⟨K.k.trans (k1.trans hk.symm), hf2, ?_, ?_, fun i hi => ?_, ?_⟩
      · show (pendingOf st2).toList = _
        rw [K.p]
        exact p1
      · show (wrote (arrOf st2) (s1 + k) r).Perm _
        rw [aa]
        exact m1
      · show (wrote (arrOf st2) (s1 + k) r)[i]? = _
        rw [aa]
        exact m2 i (by omega)
      · show SrtT rk (wrote (arrOf st2) (s1 + k) r) _ _
        rw [aa]
        exact m3
  by_cases v : n1 - k ≤ c
  · rw [if_pos v]
    exact wpS_bind (wp_mLo L H k1 fin hr)
  · rw [if_neg v]
    exact wpS_bind (wp_mHi L H k1 fin hr)
end
end ZS

namespace ZS
open PySem PyProof.Rows
abbrev CS := Option Unit × Unit
abbrev LS := Option Unit × Nat
def colStep (w0 : Nat) : StateT SortSt Sem (ForInStep CS) := do
  let g ← get
  match (if (pendingOf g).size > 1 then (pendingOf g)[(pendingOf g).size - 2]? else none) with
  | some (_, _, old) =>
    if old ≤ w0 then pure (ForInStep.done (none, ()))
    else do
      let b ← mergeAt' ((pendingOf g).size - 2)
      if (!b) = true then pure (ForInStep.done (some (), ())) else pure (ForInStep.yield (none, ()))
  | _ => pure (ForInStep.done (none, ()))
def addRun (q0 n : Nat) : StateT SortSt Sem (ForInStep LS) := do
  modify fun z => setPending z ((pendingOf z).push (q0, n, 0))
  pure (ForInStep.yield (none, q0 + n))
def tl (sz q0 n : Nat) : StateT SortSt Sem (ForInStep LS) := do
  let g ← get
  match (pendingOf g).back? with
  | some (s1, n1, _) => do
    let c ← forIn [0:sz] ((none, ()) : CS) fun _ _ => colStep (power' sz (2 * s1 + n1) (2 * s1 + n1 + n1 + n) sz)
    match c.1 with
    | some r => pure (ForInStep.done (some r, q0))
    | none => do
      modify fun z => setPending z ((pendingOf z).modify ((pendingOf z).size - 1) fun x => (x.1, x.2.1, power' sz (2 * s1 + n1) (2 * s1 + n1 + n1 + n) sz))
      addRun q0 n
  | _ => addRun q0 n
def mainStep (sz q0 : Nat) : StateT SortSt Sem (ForInStep LS) :=
  if q0 ≥ sz then pure (ForInStep.done (none, q0)) else do
    let f ← countRun' q0 (sz - q0)
    match f with
    | some n =>
      if n < minRun' sz sz 0 then do
        rule "list.sort.binary-insertion"
        let b ← binarySort' q0 (min (sz - q0) (minRun' sz sz 0)) n
        if (!b) = true then pure (ForInStep.done (some (), q0)) else tl sz q0 (min (sz - q0) (minRun' sz sz 0))
      else tl sz q0 n
    | _ => pure (ForInStep.done (some (), q0))
def pick (ps : Array (Nat × Nat × Nat)) : Nat :=
  if Option.any (fun x => decide (x < ps[ps.size - 2 + 1]?.elim 0 fun y => y.2.1)) (if ps.size - 2 > 0 then Option.map (fun y => y.2.1) ps[ps.size - 2 - 1]? else none) = true then ps.size - 2 - 1 else ps.size - 2
def finStep : StateT SortSt Sem (ForInStep CS) := do
  let g ← get
  if (pendingOf g).size ≤ 1 then pure (ForInStep.done (none, ()))
  else do
    let b ← mergeAt' (pick (pendingOf g))
    if (!b) = true then pure (ForInStep.done (some (), ())) else pure (ForInStep.yield (none, ()))
theorem sr_eq : sortRuns' = (do
  let g ← get
  let c ← forIn [0:(arrOf g).size] ((none, 0) : LS) fun _ c => mainStep (arrOf g).size c.2
  match c.1 with
  | some r => pure r
  | none => do
    let d ← forIn [0:(arrOf g).size] ((none, ()) : CS) fun _ _ => finStep
    match d.1 with
    | some r => pure r
    | none => pure ()) := by
  rw [sortRuns'_eq]
  dsimp only
  refine congrArg (bind get) (funext fun g => ?_)
  refine congr (congrArg bind ?_) (funext fun c => ?_)
  · refine congrArg (forIn _ _) (funext fun _ => funext fun c => ?_)
    unfold mainStep
    refine ite_congr rfl (fun _ => rfl) (fun _ => ?_)
    refine congrArg (bind _) (funext fun f => ?_)
    cases f with
    | none => rfl
    | some n =>
      dsimp only
      refine ite_congr rfl (fun _ => congrArg (bind _) (funext fun _ => congrArg (bind _) (funext fun b => ite_congr rfl (fun _ => rfl) (fun _ => ?_)))) (fun _ => ?_)
      all_goals
        unfold tl
        refine congrArg (bind _) (funext fun g => ?_)
        generalize (pendingOf g).back? = bk
        rcases bk with _ | ⟨s1, n1, z⟩
        · rfl
        · dsimp only
          refine congr (congrArg bind ?_) (funext fun c => ?_)
          · refine congrArg (forIn _ _) (funext fun _ => funext fun c => ?_)
            unfold colStep
            refine congrArg (bind _) (funext fun g => ?_)
            generalize (if (pendingOf g).size > 1 then (pendingOf g)[(pendingOf g).size - 2]? else none) = o
            rcases o with _ | ⟨_, _, _⟩ <;> rfl
          · rcases c with ⟨_ | _, _⟩ <;> rfl
  · rcases c with ⟨_ | _, _⟩
    · dsimp only
      refine congr (congrArg bind ?_) (funext fun c => ?_)
      · rfl
      · rcases c with ⟨_ | _, _⟩ <;> rfl
    · rfl
end ZS

namespace ZS
open PySem PyProof.Rows
/-- the runs that wait: sorted, one behind the other, from a to b -/
def Pd (rk : Keyed → Nat) (xs : Array Keyed) : List (Nat × Nat × Nat) → Nat → Nat → Prop
  | [], a, b => a = b
  | (c, n, _) :: t, a, b => c = a ∧ 1 ≤ n ∧ SrtT rk xs c n ∧ Pd rk xs t (a + n) b
section
variable {rk : Keyed → Nat}
theorem Pd.le {xs : Array Keyed} : ∀ {l : List (Nat × Nat × Nat)} {a b : Nat}, Pd rk xs l a b → a + l.length ≤ b
  | [], _, _, h => Nat.le_of_eq h
  | (c, n, _) :: t, a, b, h => by
    have := h.2.2.2.le
    have := h.2.1
    rw [List.length_cons]
    omega
theorem Pd.congr {xs ys : Array Keyed} : ∀ {l : List (Nat × Nat × Nat)} {a b : Nat}, Pd rk xs l a b → (∀ i, a ≤ i → i < b → R rk ys i = R rk xs i) → Pd rk ys l a b
  | [], _, _, h, _ => h
  | (c, n, _) :: t, a, b, h, e => by
    have le := h.2.2.2.le
    have ca := h.1
    refine ⟨h.1, h.2.1, fun i j hij hj => ?_, h.2.2.2.congr fun i h1 h2 => e i (by omega) h2⟩
    rw [e _ (by omega) (by omega), e _ (by omega) (by omega)]
    exact h.2.2.1 i j hij hj
theorem Pd_append {xs : Array Keyed} : ∀ {l m : List (Nat × Nat × Nat)} {a b : Nat}, Pd rk xs (l ++ m) a b ↔ ∃ c, Pd rk xs l a c ∧ Pd rk xs m c b
  | [], m, a, b => ⟨fun h => ⟨a, rfl, h⟩, fun ⟨c, e, h⟩ => by cases (show a = c from e); exact h⟩
  | (c, n, _) :: t, m, a, b => ⟨fun h => by
      obtain ⟨d, h1, h2⟩ := Pd_append.mp h.2.2.2
      exact ⟨d, ⟨h.1, h.2.1, h.2.2.1, h1⟩, h2⟩, fun ⟨d, h, h2⟩ => ⟨h.1, h.2.1, h.2.2.1, Pd_append.mpr ⟨d, h.2.2.2, h2⟩⟩⟩
theorem Pd.modify {xs : Array Keyed} {w0 : Nat} : ∀ {l : List (Nat × Nat × Nat)} {i a b : Nat}, Pd rk xs l a b → Pd rk xs (l.modify i fun x => (x.1, x.2.1, w0)) a b
  | [], i, _, _, h => by cases i <;> exact h
  | (c, n, _) :: t, 0, a, b, h => ⟨h.1, h.2.1, h.2.2.1, h.2.2.2⟩
  | (c, n, _) :: t, i + 1, a, b, h => ⟨h.1, h.2.1, h.2.2.1, h.2.2.2.modify⟩
theorem two_of {α : Type} : ∀ {l : List α} {i : Nat}, i + 1 < l.length → ∃ pre x y post, l = pre ++ x :: y :: post ∧ pre.length = i
  | x :: y :: t, 0, _ => ⟨[], x, y, t, rfl, rfl⟩
  | [_], 0, h => absurd h (by simp)
  | x :: t, i + 1, h => by
    obtain ⟨p, a, b, q, e, f⟩ := two_of (l := t) (i := i) (by rw [List.length_cons] at h; omega)
    exact ⟨x :: p, a, b, q, by rw [e]; rfl, by rw [List.length_cons, f]⟩
  | [], _, h => absurd h (by simp)
end
section
variable {M : Model} {A : Around} {E : Value → Shared → Prop} {s : Shared} {kd : SortKind} {rk : Keyed → Nat} {S : Keyed → Prop} {a0 : Array Keyed}
structure Iv (kd : SortKind) (rk : Keyed → Nat) (a0 : Array Keyed) (q0 : Nat) (st : SortSt) : Prop where
  k : kindOf st = kd
  f : failedOf st = none
  a : (arrOf st).Perm a0
  pd : Pd rk (arrOf st) (pendingOf st).toList 0 q0
theorem Iv.all {q0 : Nat} {st : SortSt} (h : Iv kd rk a0 q0 st) (hS : ∀ p ∈ a0.toList, S p) : AllS S st := fun p hp => hS p ((Array.perm_iff_toList_perm.mp h.a).mem_iff.mp hp)
theorem wp_mStep {q0 i : Nat} {st : SortSt} {Q : Bool → SortSt → Prop} (L : LtOk M A E s kd rk S) (hS : ∀ p ∈ a0.toList, S p) (hr : ∀ x, wpAny M A (rule x) (fun _ s' => s' = s) E s) (I : Iv kd rk a0 q0 st) (hq : q0 ≤ a0.size) (hi : i + 1 < (pendingOf st).size)
    (h : ∀ st', Iv kd rk a0 q0 st' → (pendingOf st').size + 1 = (pendingOf st).size → (∀ j, q0 ≤ j → (arrOf st')[j]? = (arrOf st)[j]?) → Q true st') : wpS M A E s (mergeAt' i) Q st := by
  obtain ⟨pre, ⟨s1, n1, pw⟩, ⟨s2, n2, p2⟩, post, e, el⟩ := two_of (l := (pendingOf st).toList) (i := i) (by rw [Array.length_toList]; exact hi)
  subst el
  have P := I.pd
  rw [e] at P
  obtain ⟨c, P1, e1, k1, o1, e2, k2, o2, P3⟩ := Pd_append.mp P
  subst e1
  subst e2
  have le := P3.le
  have sz := I.a.size_eq
  refine wp_mAt L I.k (I.all hS) I.f hr e k1 k2 (by omega) o1 o2 fun st' m => ?_
  have same : ∀ j, (j < s1 ∨ s1 + n1 + n2 ≤ j) → R rk (arrOf st') j = R rk (arrOf st) j := fun j hj => R_congr (m.out j (by omega))
  refine h st' ⟨m.k.trans I.k, m.f, m.a.trans I.a, ?_⟩ ?_ fun j hj => m.out j (by omega)
  · rw [m.p]
    refine Pd_append.mpr ⟨s1, P1.congr fun j _ hj => same j (by omega), rfl, by omega, m.srt, ?_⟩
    rw [← Nat.add_assoc]
    exact P3.congr fun j hj _ => same j (by omega)
  · rw [← Array.length_toList, ← Array.length_toList, m.p, e]
    simp only [List.length_append, List.length_cons]
    omega
theorem wp_colStep {q0 w0 : Nat} {st : SortSt} {Q : ForInStep CS → SortSt → Prop} (L : LtOk M A E s kd rk S) (hS : ∀ p ∈ a0.toList, S p) (hr : ∀ x, wpAny M A (rule x) (fun _ s' => s' = s) E s) (I : Iv kd rk a0 q0 st) (hq : q0 ≤ a0.size)
    (h : ∀ st' (d : Bool), Iv kd rk a0 q0 st' → (∀ j, q0 ≤ j → (arrOf st')[j]? = (arrOf st)[j]?) → Q (if d = true then ForInStep.done (none, ()) else ForInStep.yield (none, ())) st') : wpS M A E s (colStep w0) Q st := by
  unfold colStep
  refine wpS_bind (wpS_get ?_)
  generalize ho : (if (pendingOf st).size > 1 then (pendingOf st)[(pendingOf st).size - 2]? else none) = o
  rcases o with _ | ⟨x, y, old⟩
  · exact wpS_pure (h st true I fun _ _ => rfl)
  · dsimp only
    have h1 : (pendingOf st).size > 1 := by
      by_cases z : (pendingOf st).size > 1
      · exact z
      · rw [if_neg z] at ho; cases ho
    by_cases w : old ≤ w0
    · rw [if_pos w]
      exact wpS_pure (h st true I fun _ _ => rfl)
    · rw [if_neg w]
      refine wpS_bind (wp_mStep L hS hr I hq (by omega) fun st' I' _ e => ?_)
      rw [if_neg (by simp)]
      exact wpS_pure (h st' false I' e)
theorem wp_addRun {q0 n : Nat} {st : SortSt} {Q : ForInStep LS → SortSt → Prop} (I : Iv kd rk a0 q0 st) (hn : 1 ≤ n) (o : SrtT rk (arrOf st) q0 n) (h : ∀ st', Iv kd rk a0 (q0 + n) st' → Q (ForInStep.yield (none, q0 + n)) st') : wpS M A E s (addRun q0 n) Q st := by
  unfold addRun
  refine wpS_bind (wpS_modify (wpS_pure (h _ ⟨I.k, I.f, I.a, ?_⟩)))
  show Pd rk (arrOf st) ((pendingOf st).push (q0, n, 0)).toList 0 (q0 + n)
  rw [Array.toList_push]
  exact Pd_append.mpr ⟨q0, I.pd, rfl, hn, o, rfl⟩
theorem wp_tl {q0 n : Nat} {st : SortSt} {Q : ForInStep LS → SortSt → Prop} (L : LtOk M A E s kd rk S) (hS : ∀ p ∈ a0.toList, S p) (hr : ∀ x, wpAny M A (rule x) (fun _ s' => s' = s) E s) (I : Iv kd rk a0 q0 st) (hq : q0 ≤ a0.size) (hn : 1 ≤ n) (o : SrtT rk (arrOf st) q0 n)
    (h : ∀ st', Iv kd rk a0 (q0 + n) st' → Q (ForInStep.yield (none, q0 + n)) st') : wpS M A E s (tl a0.size q0 n) Q st := by
  unfold tl
  refine wpS_bind (wpS_get ?_)
  generalize (pendingOf st).back? = bk
  rcases bk with _ | ⟨s1, n1, z⟩
  · exact wp_addRun I hn o h
  · dsimp only
    generalize power' a0.size (2 * s1 + n1) (2 * s1 + n1 + n1 + n) a0.size = w0
    refine wpS_bind (wpS_mono (wpS_forRange (I := fun _ c st' => c = (none, ()) ∧ Iv kd rk a0 q0 st' ∧ ∀ j, q0 ≤ j → (arrOf st')[j]? = (arrOf st)[j]?) (Q := fun c st' => c = (none, ()) ∧ Iv kd rk a0 q0 st' ∧ ∀ j, q0 ≤ j → (arrOf st')[j]? = (arrOf st)[j]?) ?_ (fun _ _ z => z) ⟨rfl, I, fun _ _ => rfl⟩) ?_)
    · rintro x c st1 _ _ ⟨rfl, I1, e1⟩
      refine wp_colStep L hS hr I1 hq fun st2 d I2 e2 => ?_
      cases d
      · exact ⟨rfl, I2, fun j hj => (e2 j hj).trans (e1 j hj)⟩
      · exact ⟨rfl, I2, fun j hj => (e2 j hj).trans (e1 j hj)⟩
    · rintro c st1 ⟨rfl, I1, e1⟩
      dsimp only
      refine wpS_bind (wpS_modify ?_)
      refine wp_addRun ⟨I1.k, I1.f, I1.a, ?_⟩ hn (fun i j hij hj => ?_) h
      · show Pd rk (arrOf st1) ((pendingOf st1).modify ((pendingOf st1).size - 1) fun x => (x.1, x.2.1, w0)).toList 0 q0
        rw [Array.toList_modify]
        exact I1.pd.modify
      · show R rk (arrOf st1) (q0 + i) ≤ R rk (arrOf st1) (q0 + j)
        rw [R_congr (rk := rk) (e1 (q0 + i) (by omega)), R_congr (rk := rk) (e1 (q0 + j) (by omega))]
        exact o i j hij hj
theorem Iv.within {q0 n : Nat} {st st' : SortSt} (I : Iv kd rk a0 q0 st) (W : Within st st' q0 n) : Iv kd rk a0 q0 st' := ⟨W.kp.k.trans I.k, W.kp.f.trans I.f, W.kp.a.trans I.a, by
  rw [W.kp.p]
  exact I.pd.congr fun i _ hi => R_congr (W.out i (.inl hi))⟩
theorem wp_mainStep {q0 : Nat} {st : SortSt} {Q : ForInStep LS → SortSt → Prop} (L : LtOk M A E s kd rk S) (hS : ∀ p ∈ a0.toList, S p) (hr : ∀ x, wpAny M A (rule x) (fun _ s' => s' = s) E s) (I : Iv kd rk a0 q0 st) (hq : q0 ≤ a0.size)
    (h1 : q0 = a0.size → Q (ForInStep.done (none, q0)) st) (h2 : ∀ n st', 1 ≤ n → q0 + n ≤ a0.size → Iv kd rk a0 (q0 + n) st' → Q (ForInStep.yield (none, q0 + n)) st') : wpS M A E s (mainStep a0.size q0) Q st := by
  unfold mainStep
  by_cases z : q0 ≥ a0.size
  · rw [if_pos z]
    exact wpS_pure (h1 (by omega))
  rw [if_neg z]
  have sz := I.a.size_eq
  refine wpS_bind (wp_countRun L I.k (I.all hS) (by omega) (by omega) hr fun n st1 g1 g2 W1 o1 => ?_)
  dsimp only
  have I1 := I.within W1
  by_cases w : n < minRun' a0.size a0.size 0
  · rw [if_pos w]
    generalize minRun' a0.size a0.size 0 = mr at w ⊢
    refine wpS_bind (wpS_lift (wpAny_mono (hr _) (fun _ _ z => ⟨z, ?_⟩) fun _ _ z => z))
    have sz1 := I1.a.size_eq
    refine wpS_bind (wp_binS L I1.k (I1.all hS) (by omega) (by omega) o1 fun st2 W2 o2 => ?_)
    rw [if_neg (by simp)]
    exact wp_tl L hS hr (I1.within W2) hq (by omega) o2 fun st3 I3 => h2 _ st3 (by omega) (by omega) I3
  · rw [if_neg w]
    exact wp_tl L hS hr I1 hq g1 o1 fun st3 I3 => h2 _ st3 g1 (by omega) I3
theorem pick_lt {ps : Array (Nat × Nat × Nat)} (h : 1 < ps.size) : pick ps + 1 < ps.size := by
  unfold pick
  generalize Option.any (fun x => decide (x < ps[ps.size - 2 + 1]?.elim 0 fun y => y.2.1)) (if ps.size - 2 > 0 then Option.map (fun y => y.2.1) ps[ps.size - 2 - 1]? else none) = b
  cases b
  · rw [if_neg (by simp)]; omega
  · rw [if_pos rfl]; omega
theorem wp_sortRuns {st : SortSt} {Q : Unit → SortSt → Prop} (L : LtOk M A E s kd rk S) (hS : ∀ p ∈ (arrOf st).toList, S p) (hr : ∀ x, wpAny M A (rule x) (fun _ s' => s' = s) E s) (hk : kindOf st = kd) (hf : failedOf st = none) (hp : pendingOf st = #[])
    (h : ∀ st', (arrOf st').Perm (arrOf st) → failedOf st' = none → Srt rk (arrOf st').toList → Q () st') : wpS M A E s sortRuns' Q st := by
  rw [sr_eq]
  refine wpS_bind (wpS_get ?_)
  have I0 : Iv kd rk (arrOf st) 0 st := ⟨hk, hf, Array.Perm.refl _, by rw [hp]; exact rfl⟩
  revert I0 hS h
  generalize arrOf st = a0
  intro hS h I0
  refine wpS_bind (wpS_mono (wpS_forRange (I := fun x c st' => ∃ q0, c = (none, q0) ∧ x ≤ q0 ∧ q0 ≤ a0.size ∧ Iv kd rk a0 q0 st') (Q := fun c st' => c = (none, a0.size) ∧ Iv kd rk a0 a0.size st') ?_ ?_ ⟨0, rfl, Nat.le_refl _, Nat.zero_le _, I0⟩) ?_)
  · rintro x c st1 _ _ ⟨q0, rfl, g1, g2, I⟩
    exact wp_mainStep L hS hr I g2 (fun e => by subst e; exact ⟨rfl, I⟩) fun n st2 k1 k2 I2 => ⟨q0 + n, rfl, by omega, k2, I2⟩
  · rintro c st1 ⟨q0, rfl, g1, g2, I⟩
    have e : q0 = a0.size := by omega
    subst e
    exact ⟨rfl, I⟩
  · rintro c st1 ⟨rfl, I1⟩
    dsimp only
    refine wpS_bind (wpS_mono (wpS_forRange (I := fun x c st' => c = (none, ()) ∧ Iv kd rk a0 a0.size st' ∧ ((pendingOf st').size ≤ 1 ∨ (pendingOf st').size + x ≤ a0.size)) (Q := fun c st' => c = (none, ()) ∧ Iv kd rk a0 a0.size st' ∧ (pendingOf st').size ≤ 1) ?_ ?_ ⟨rfl, I1, .inr ?_⟩) ?_)
    · rintro x c st2 _ _ ⟨rfl, I2, g⟩
      unfold finStep
      refine wpS_bind (wpS_get ?_)
      by_cases z : (pendingOf st2).size ≤ 1
      · rw [if_pos z]
        exact wpS_pure ⟨rfl, I2, z⟩
      · rw [if_neg z]
        refine wpS_bind (wp_mStep L hS hr I2 (Nat.le_refl _) (pick_lt (by omega)) fun st3 I3 e _ => ?_)
        rw [if_neg (by simp)]
        exact wpS_pure ⟨rfl, I3, .inr (by omega)⟩
    · rintro c st2 ⟨rfl, I2, g⟩
      exact ⟨rfl, I2, by omega⟩
    · have := I1.pd.le
      rw [Array.length_toList] at this
      omega
    · rintro c st2 ⟨rfl, I2, g⟩
      refine wpS_pure (h st2 I2.a I2.f ?_)
      have P := I2.pd
      have sz := I2.a.size_eq
      have lp : (pendingOf st2).toList.length ≤ 1 := by rw [Array.length_toList]; exact g
      have o : SrtT rk (arrOf st2) 0 a0.size := by
        generalize (pendingOf st2).toList = l at P lp
        match l, P, lp with
        | [], P, _ =>
          have e : 0 = a0.size := P
          intro i j _ hj
          omega
        | [(c, n, _)], P, _ =>
          obtain ⟨e1, _, o, e2⟩ := P
          have e2 : 0 + n = a0.size := e2
          subst e1
          rw [← e2, Nat.zero_add]
          exact o
        | _ :: _ :: _, _, lp => simp at lp
      have := srt_list o
      rw [List.drop_zero, List.take_of_length_le (by rw [Array.length_toList]; omega)] at this
      exact this
end
end ZS

namespace ZS
open PySem PyProof.Rows
/-! ### ranks of a total order -/
section
variable {κ : Type} {lt : κ → κ → Bool}
def rnk (lt : κ → κ → Bool) (ks : List κ) (k : κ) : Nat := ks.countP fun y => lt y k
theorem count_le {p q : κ → Bool} : ∀ {l : List κ}, (∀ x ∈ l, p x = true → q x = true) → l.countP p ≤ l.countP q
  | [], _ => Nat.le_refl _
  | x :: t, h => by
    have ih := count_le (l := t) fun y hy => h y (.tail _ hy)
    have hx := h x (.head _)
    rw [List.countP_cons, List.countP_cons]
    cases e : p x
    · rw [if_neg (by simp)]; omega
    · rw [hx e, if_pos rfl]; omega
theorem count_lt {p q : κ → Bool} : ∀ {l : List κ} {z : κ}, (∀ x ∈ l, p x = true → q x = true) → z ∈ l → p z = false → q z = true → l.countP p < l.countP q
  | x :: t, z, h, hz, h1, h2 => by
    have ih := count_le (l := t) fun y hy => h y (.tail _ hy)
    have hx := h x (.head _)
    rw [List.countP_cons, List.countP_cons]
    rcases List.mem_cons.mp hz with e | e
    · subst e
      rw [h1, h2, if_neg (by simp), if_pos rfl]; omega
    · have := count_lt (l := t) (fun y hy => h y (.tail _ hy)) e h1 h2
      cases e : p x
      · rw [if_neg (by simp)]; omega
      · rw [hx e, if_pos rfl]; omega
structure Tot (lt : κ → κ → Bool) : Prop where
  irr : ∀ a, lt a a = false
  tr : ∀ a b c, lt a b = true → lt b c = true → lt a c = true
  tot : ∀ a b, lt a b = false → lt b a = false → a = b
theorem rnk_le (T : Tot lt) {ks : List κ} {a b : κ} (h : lt b a = false) : rnk lt ks a ≤ rnk lt ks b := by
  refine count_le fun y _ hy => ?_
  cases e : lt a b
  · rw [← T.tot a b e h]; exact hy
  · exact T.tr _ _ _ hy e
theorem rnk_lt (T : Tot lt) {ks : List κ} {a b : κ} (ha : a ∈ ks) (h : lt a b = true) : rnk lt ks a < rnk lt ks b := count_lt (fun y _ hy => T.tr _ _ _ hy h) ha (T.irr a) h
theorem rnk_dec (T : Tot lt) {ks : List κ} {a b : κ} (ha : a ∈ ks) : decide (rnk lt ks a < rnk lt ks b) = lt a b := by
  cases e : lt a b
  · exact decide_eq_false (Nat.not_lt.mpr (rnk_le T e))
  · exact decide_eq_true (rnk_lt T ha e)
end
/-! ### rows of numbers by their first unlike ones -/
def ltL : List Int → List Int → Bool
  | _, [] => false
  | [], _ :: _ => true
  | a :: x, b :: y => if a = b then ltL x y else decide (a < b)
theorem ltL_irr : ∀ x, ltL x x = false
  | [] => rfl
  | a :: x => by rw [ltL, if_pos rfl]; exact ltL_irr x
theorem ltL_tr : ∀ a b c, ltL a b = true → ltL b c = true → ltL a c = true
  | _, [], _, h, _ => by simp [ltL] at h
  | _, _ :: _, [], _, h => by simp [ltL] at h
  | [], _ :: _, _ :: _, _, _ => rfl
  | a :: x, b :: y, c :: z, h, g => by
    rw [ltL] at h g ⊢
    by_cases e1 : a = b
    · subst e1
      rw [if_pos rfl] at h
      by_cases e2 : a = c
      · subst e2
        rw [if_pos rfl] at g ⊢
        exact ltL_tr x y z h g
      · rw [if_neg e2] at g ⊢
        exact g
    · rw [if_neg e1] at h
      have h := of_decide_eq_true h
      by_cases e2 : b = c
      · subst e2
        rw [if_neg e1]
        exact decide_eq_true h
      · rw [if_neg e2] at g
        have g := of_decide_eq_true g
        rw [if_neg (by omega)]
        exact decide_eq_true (by omega)
theorem ltL_tot : ∀ a b, ltL a b = false → ltL b a = false → a = b
  | [], [], _, _ => rfl
  | [], _ :: _, h, _ => by simp [ltL] at h
  | _ :: _, [], _, h => by simp [ltL] at h
  | a :: x, b :: y, h, g => by
    rw [ltL] at h g
    by_cases e : a = b
    · subst e
      rw [if_pos rfl] at h g
      rw [ltL_tot x y h g]
    · rw [if_neg e] at h
      rw [if_neg (fun z => e z.symm)] at g
      have h := of_decide_eq_false h
      have g := of_decide_eq_false g
      omega
theorem totL : Tot ltL := ⟨ltL_irr, ltL_tr, ltL_tot⟩
/-! ### tuples of ints -/
def intV : Value → Int
  | .int i _ => i
  | _ => 0
def keyV (h : Heap) : Value → List Int
  | .ref a => match h.get? a with
    | some o => match o.data with
      | .seq xs _ => xs.toList.map intV
      | _ => []
    | none => []
  | _ => []
def AllInt (l : List Value) : Prop := ∀ v ∈ l, ∃ i t, v = .int i t
def TupI (h : Heap) (v : Value) : Prop := ∃ a o xs n, v = .ref a ∧ h.get? a = some o ∧ o.cls = .type "tuple" ∧ o.data = .seq xs n ∧ AllInt xs.toList ∧ 0 < xs.size
theorem keyV_at {h : Heap} {a : Addr} {o : Obj} {xs : Array Value} {n : Nat} (e : h.get? a = some o) (d : o.data = .seq xs n) : keyV h (.ref a) = xs.toList.map intV := by
  unfold keyV
  dsimp only
  rw [e]
  dsimp only
  rw [d]
section
variable {prog : Program} {w : World} {A : Around} {E : Value → Shared → Prop} {s : Shared}
theorem lex_int {Q : Bool → Shared → Prop} {fin : Bool} : ∀ (xs ys : List Value) (i : Nat), AllInt xs → AllInt ys → fin = decide (xs.length < ys.length) → Q (ltL (xs.map intV) (ys.map intV)) s → PySem.W.KatLex prog w A true fin Q (xs.zip ys) i s
  | [], [], i, _, _, e, q => by
    subst e
    exact PySem.W.kat_nil q
  | [], b :: y, i, _, _, e, q => by
    subst e
    exact PySem.W.kat_nil q
  | a :: x, [], i, _, _, e, q => by
    subst e
    exact PySem.W.kat_nil q
  | a :: x, b :: y, i, ha, hb, e, q => by
    obtain ⟨n, t, rfl⟩ := ha a (.head _)
    obtain ⟨m, u, rfl⟩ := hb b (.head _)
    rw [List.map_cons, List.map_cons, ltL] at q
    refine PySem.W.kat_cons (wpAny_eqBool_int ?_)
    by_cases z : n = m
    · have q : Q (ltL (x.map intV) (y.map intV)) s := by
        rw [if_pos (show intV (.int n t) = intV (.int m u) from z)] at q
        exact q
      rw [show (n == m) = true by simpa using z]
      refine PySem.W.kat_yes (lex_int x y (i + 1) (fun v hv => ha v (.tail _ hv)) (fun v hv => hb v (.tail _ hv)) ?_ q)
      rw [e, List.length_cons, List.length_cons]
      exact decide_eq_decide.mpr (by omega)
    · have q : Q (decide (n < m)) s := by
        rw [if_neg (show ¬ intV (.int n t) = intV (.int m u) from z)] at q
        exact q
      rw [show (n == m) = false by simpa using z]
      refine PySem.W.kat_no ?_
      cases (true && i == 0)
      · exact PySem.W.kat_one _ _ (lt_int q)
      · exact oneLt_int q
/-- the comparisons of tuples of ints, by rank -/
theorem ltOk_tup {h0 : Heap} {ks : List (List Int)} {S : Keyed → Prop} (hS : ∀ x, S x → TupI h0 x.1 ∧ keyV h0 x.1 ∈ ks) (hk : ∀ b o, h0.get? b = some o → (∃ x n, o.cls = .type "tuple" ∧ o.data = .seq x n) → s.heap.get? b = some o) :
    LtOk (model prog w) A E s (tuples' true) (fun x => rnk ltL ks (keyV h0 x.1)) S := by
  intro x y st Q sx sy kd q
  obtain ⟨⟨a, oa, xs, na, ea, ga, ca, da, ia, _⟩, ma⟩ := hS x sx
  obtain ⟨⟨b, ob, ys, nb, eb, gb, cb, db, ib, _⟩, mb⟩ := hS y sy
  rw [lt'_eq]
  refine wpS_bind (wpS_get ?_)
  rw [kd, ea, eb]
  refine wpS_bind (wpS_lift (wpAny_attempt (PySem.W.kat_lt (hk _ _ ga ⟨_, _, ca, da⟩) da (hk _ _ gb ⟨_, _, cb, db⟩) db (lex_int _ _ 0 ia ib (by rw [Array.length_toList, Array.length_toList]) ⟨rfl, ?_⟩))))
  refine wpS_pure ?_
  dsimp only at q
  rw [rnk_dec totL ma, ea, eb, keyV_at ga da, keyV_at gb db] at q
  exact q
theorem kind_tup {M : Model} {h0 : Heap} {vs : List Value} {Q : SortKind → Shared → Prop} (hv : ∀ v ∈ vs, TupI h0 v) (hk : ∀ b o, h0.get? b = some o → (∃ x n, o.cls = .type "tuple" ∧ o.data = .seq x n) → s.heap.get? b = some o) (hne : vs ≠ []) (q : Q (tuples' true) s) : wpAny M A (keyKind' vs.toArray) Q E s := by
  have mk : ∀ (l : List Value), (∀ v ∈ l, TupI h0 v) → ∃ fs, PySem.W.KatTups s.heap l fs ∧ AllInt fs ∧ fs.length = l.length := by
    intro l
    induction l with
    | nil => exact fun _ => ⟨[], PySem.W.KatTups.nil, fun v hv => (nomatch hv), rfl⟩
    | cons v r ih =>
      intro hl
      obtain ⟨fs, k1, k2, k3⟩ := ih fun v hv => hl v (.tail _ hv)
      obtain ⟨a, o, xs, n, rfl, g, c, d, i, z⟩ := hl v (.head _)
      obtain ⟨f, hf⟩ : ∃ f, xs[0]? = some f := ⟨_, Array.getElem?_eq_getElem z⟩
      refine ⟨f :: fs, PySem.W.KatTups.cons (hk _ _ g ⟨_, _, c, d⟩) c d hf k1, fun v hv => ?_, by rw [List.length_cons, List.length_cons, k3]⟩
      rcases List.mem_cons.mp hv with e | e
      · subst e
        rw [← Array.getElem?_toList] at hf
        exact i _ (List.mem_of_getElem? hf)
      · exact k2 v e
  obtain ⟨fs, k1, k2, k3⟩ := mk vs hv
  refine PySem.W.kat_kind (T := .type "int") k1 ?_ (fun v hv => ?_) rfl q
  · rw [k3]
    exact List.length_pos_iff.mpr hne
  · obtain ⟨i, t, rfl⟩ := k2 v hv
    exact .now
end
end ZS

namespace ZS
open PySem PyProof.Rows
section
variable {prog : Program} {w : World} {A : Around} {E : Value → Shared → Prop} {s : Shared}
theorem zip_self (vs : List Value) : (vs.toArray.zip vs.toArray).toList = vs.map fun v => (v, v) := by
  rw [Array.toList_zip]
  induction vs with
  | nil => rfl
  | cons v r ih => exact congrArg ((v, v) :: ·) ih
/-- l.sort() -/
theorem lsort_any {a : Addr} {vs : List Value} {n : Nat} {kd : SortKind} {rk : Keyed → Nat} {S : Keyed → Prop} {P : PySem.Fin → Shared → Prop} (ho : s.heap.get? a = some (seqObj "list" vs.toArray n)) (hz : vs.length ≤ sizeLine) (hS : ∀ v ∈ vs, S (v, v))
    (kind : ∀ h', (∀ b o, b ≠ a → s.heap.get? b = some o → h'.get? b = some o) → ∀ {Q : SortKind → Shared → Prop}, vs ≠ [] → Q kd { s with heap := h' } → wpAny (model prog w) A (keyKind' vs.toArray) Q E { s with heap := h' })
    (lt : ∀ h', (∀ b o, b ≠ a → s.heap.get? b = some o → h'.get? b = some o) → LtOk (model prog w) A E { s with heap := h' } kd rk S)
    (h : ∀ (o : List Value) c h', o.Perm vs → o.Pairwise (fun x y => rk (x, x) ≤ rk (y, y)) → (∀ b u, b ≠ a → s.heap.get? b = some u → h'.get? b = some u) → h'.get? a = some (seqObj "list" o.toArray c) → P (.done (.ret .none)) { s with heap := h' }) :
    wpAny (model prog w) A (Builtin.«list.sort» ⟨[.ref a], []⟩) P E s := by
  rw [list_sort_plain]
  have ha : a < s.heap.objs.size := Heap.lt_size ho
  refine wpAny_bind (listItems_at ho rfl ?_)
  refine wpAny_bind (listUpdate_at ho rfl ?_ (by rw [List.size_toArray]; exact hz) (Nat.zero_le _))
  obtain ⟨e1, ho1⟩ : ∃ e1, (s.heap.update a (Obj.mapSeq fun _ => (#[] : Array Value))).get? a = some (seqObj "list" #[] e1) := ⟨_, get?_update_seq ho fun _ => #[]⟩
  refine wpAny_bind (seqEpoch_at ho1 rfl ?_)
  refine wpAny_bind (wpAny_newTuple ?_ hz)
  refine wpAny_bind (wpAny_newList ?_ (Nat.zero_le _))
  refine wpAny_holding ?_
  have k2 : ∀ b u, (s.heap.update a (Obj.mapSeq fun _ => (#[] : Array Value))).get? b = some u → (((s.heap.update a (Obj.mapSeq fun _ => (#[] : Array Value))).push (seqObj "tuple" vs.toArray 0)).push (seqObj "list" #[] 0)).get? b = some u := fun b u e => Heap.get?_push_of_some _ (Heap.get?_push_of_some _ e)
  have k3 : ∀ b u, b ≠ a → s.heap.get? b = some u → (((s.heap.update a (Obj.mapSeq fun _ => (#[] : Array Value))).push (seqObj "tuple" vs.toArray 0)).push (seqObj "list" #[] 0)).get? b = some u := fun b u hb e => k2 b u (by rw [Heap.get?_update_ne _ _ _ _ hb]; exact e)
  have ho6 := k2 _ _ ho1
  show wpAny (model prog w) A _ P E { s with heap := ((s.heap.update a (Obj.mapSeq fun _ => (#[] : Array Value))).push (seqObj "tuple" vs.toArray 0)).push (seqObj "list" #[] 0) }
  generalize ((s.heap.update a (Obj.mapSeq fun _ => (#[] : Array Value))).push (seqObj "tuple" vs.toArray 0)).push (seqObj "list" #[] 0) = h1 at k3 ho6 ⊢
  dsimp only
  have fin : ∀ st' : SortSt, (arrOf st').Perm (vs.toArray.zip vs.toArray) → Srt rk (arrOf st').toList → failedOf st' = none → wpAny (model prog w) A (do
      let touched := (← seqEpoch a) != e1
      Builtin.List.listUpdate (.ref a) fun _ => (arrOf st').map (·.2)
      if let some e := failedOf st' then rule "list.sort.comparison-raised"; throw e
      if touched then rule "list.sort.modified"; raiseError "ValueError" "list modified during sort"
      ret .none) P E { s with heap := h1 } := fun st' hp hs hf => by
    have lp : (arrOf st').toList.Perm (vs.map fun v => (v, v)) := by
      have := Array.perm_iff_toList_perm.mp hp
      rw [zip_self] at this
      exact this
    have op : ((arrOf st').toList.map (·.2)).Perm vs := by
      have := lp.map (·.2)
      rw [List.map_map, show ((fun x : Keyed => x.2) ∘ fun v : Value => (v, v)) = id from rfl, List.map_id] at this
      exact this
    have tw : ∀ p ∈ (arrOf st').toList, p = (p.2, p.2) := fun p hp => by
      obtain ⟨v, _, e⟩ := List.mem_map.mp (lp.mem_iff.mp hp)
      rw [← e]
    have osr : ((arrOf st').toList.map (·.2)).Pairwise (fun x y => rk (x, x) ≤ rk (y, y)) := by
      rw [List.pairwise_map]
      refine List.Pairwise.imp_of_mem (fun {p q} hp hq hr => ?_) hs
      rw [← tw p hp, ← tw q hq]
      exact hr
    have os : ((arrOf st').map (·.2)).size ≤ sizeLine + 1 := by
      rw [← Array.length_toList, Array.toList_map, op.length_eq]
      omega
    refine wpAny_bind (seqEpoch_at ho6 rfl ?_)
    refine wpAny_bind (listUpdate_at ho6 rfl ?_ (Nat.zero_le _) os)
    rw [hf]
    simp only [bne_self_eq_false, Bool.false_eq_true, if_false]
    obtain ⟨c, hc⟩ : ∃ c, (h1.update a (Obj.mapSeq fun _ => (arrOf st').map (·.2))).get? a = some (seqObj "list" ((arrOf st').toList.map (·.2)).toArray c) := by
      have := get?_update_seq ho6 fun _ => (arrOf st').map (·.2)
      rw [show ((arrOf st').toList.map (·.2)).toArray = (arrOf st').map (·.2) by rw [← Array.toList_map]]
      exact ⟨_, this⟩
    refine wpAny_pure (h _ c _ op osr (fun b u hb e => ?_) hc)
    rw [Heap.get?_update_ne _ _ _ _ hb]
    exact k3 b u hb e
  by_cases h2 : vs.toArray.size < 2
  · rw [if_pos h2, if_pos h2]
    refine wpAny_bind (wpAny_pure ?_)
    rw [StateT.run_pure]
    refine wpAny_bind (wpAny_pure ?_)
    refine fin (SortSt.mk' general' (vs.toArray.zip vs.toArray) #[] 7 none) (Array.Perm.refl _) ?_ rfl
    show Srt rk (vs.toArray.zip vs.toArray).toList
    rw [zip_self]
    have h3 : vs.length < 2 := h2
    clear fin h lt kind hS ho
    match vs, h3 with
    | [], _ => exact .nil
    | [v], _ => exact List.pairwise_singleton _ _
    | _ :: _ :: _, h3 => exact absurd h3 (by rw [List.length_cons, List.length_cons]; omega)
  · rw [if_neg h2, if_neg h2]
    refine wpAny_bind (kind h1 k3 (fun z => by rw [z] at h2; simp at h2) ?_)
    refine wpAny_bind (wpAny_mono (wp_sortRuns (st := SortSt.mk' kd (vs.toArray.zip vs.toArray) #[] 7 none) (Q := fun _ st' => (arrOf st').Perm (vs.toArray.zip vs.toArray) ∧ failedOf st' = none ∧ Srt rk (arrOf st').toList) (lt h1 k3) (fun p hp => ?_) (fun x => wpAny_rule rfl) rfl rfl rfl fun st' a1 a2 a3 => ⟨a1, a2, a3⟩) ?_ fun _ _ e => e)
    · rw [show (arrOf (SortSt.mk' kd (vs.toArray.zip vs.toArray) #[] 7 none)) = vs.toArray.zip vs.toArray from rfl, zip_self] at hp
      obtain ⟨v, hv, e⟩ := List.mem_map.mp hp
      rw [← e]
      exact hS v hv
    · rintro ⟨⟨⟩, st'⟩ s' ⟨rfl, hp, hf, hs⟩
      exact fin st' hp hs hf
theorem sorted_any {l : Addr} {vs : List Value} {kd : SortKind} {rk : Keyed → Nat} {S : Keyed → Prop} {Q : Value → Shared → Prop} (hl : s.heap.IsList l vs.toArray) (hz : vs.length ≤ sizeLine) (hS : ∀ v ∈ vs, S (v, v))
    (kind : ∀ h', (∀ b o, s.heap.get? b = some o → h'.get? b = some o) → ∀ {Q : SortKind → Shared → Prop} {E : Value → Shared → Prop}, vs ≠ [] → Q kd { s with heap := h' } → wpAny (model prog w) A.in1.in1 (keyKind' vs.toArray) Q E { s with heap := h' })
    (lt : ∀ h' E, (∀ b o, s.heap.get? b = some o → h'.get? b = some o) → LtOk (model prog w) A.in1.in1 E { s with heap := h' } kd rk S)
    (h : ∀ (o : List Value) a c h', o.Perm vs → o.Pairwise (fun x y => rk (x, x) ≤ rk (y, y)) → s.heap.objs.size ≤ a → (∀ b u, s.heap.get? b = some u → h'.get? b = some u) → h'.get? a = some (seqObj "list" o.toArray c) → Q (.ref a) { s with heap := h' }) :
    wpAny (model prog w) A (call (.builtin "sorted") [.ref l]) Q E s := by
  refine Calls.call_function_entry kind_sorted plain_sorted entry_sorted (args_sorted1 _) ?_
  unfold Builtin.«sorted»
  refine wpAny_bind (m := checkCount "sorted" 1 1 _) (wpAny_pure ?_)
  refine wpAny_bind (collect_list hl ?_ hz)
  refine wpAny_bind (wpAny_newList ?_ hz)
  have hsz : ((s.heap.push (seqObj "list" #[] 0)).update s.heap.objs.size (Obj.mapSeq (· ++ vs.toArray))).objs.size = s.heap.objs.size + 1 := by
    rw [Heap.size_update, size_push']
  have hoL : (((s.heap.push (seqObj "list" #[] 0)).update s.heap.objs.size (Obj.mapSeq (· ++ vs.toArray))).push (seqObj "list" vs.toArray 0)).get? (s.heap.objs.size + 1) = some (seqObj "list" vs.toArray 0) := by
    rw [← hsz]; exact Heap.get?_push_size _ rfl
  have keep : ∀ b o, s.heap.get? b = some o → (((s.heap.push (seqObj "list" #[] 0)).update s.heap.objs.size (Obj.mapSeq (· ++ vs.toArray))).push (seqObj "list" vs.toArray 0)).get? b = some o := fun b o q => by
    have hlt : b < s.heap.objs.size := Heap.lt_size q
    rw [Heap.get?_push_ne _ _ _ (by rw [hsz]; exact Nat.ne_of_lt (Nat.lt_succ_of_lt hlt)), Heap.get?_update_ne _ _ _ _ (Nat.ne_of_lt hlt), Heap.get?_push_ne _ _ _ (Nat.ne_of_lt hlt)]
    exact q
  show wpAny _ _ _ _ _ { s with heap := ((s.heap.push (seqObj "list" #[] 0)).update s.heap.objs.size (Obj.mapSeq (· ++ vs.toArray))).push (seqObj "list" vs.toArray 0) }
  rw [hsz]
  generalize ((s.heap.push (seqObj "list" #[] 0)).update s.heap.objs.size (Obj.mapSeq (· ++ vs.toArray))).push (seqObj "list" vs.toArray 0) = h1 at hoL keep ⊢
  have ne : ∀ b o, s.heap.get? b = some o → b ≠ s.heap.objs.size + 1 := fun b o e => Nat.ne_of_lt (Nat.lt_succ_of_lt (Heap.lt_size e))
  refine wpAny_bind (wpAny_holding (wpAny_call_entry slot_list_sort ⟨_, hoL, rfl⟩ entry_list_sort ?body (args_list_sort _)))
  case body =>
    refine lsort_any (s := { s with heap := h1 }) (kd := kd) (rk := rk) (S := S) hoL hz hS (fun h' k {Q} hne q => kind h' (fun b o e => k b o (ne b o e) (keep b o e)) hne q) (fun h' k => lt h' _ fun b o e => k b o (ne b o e) (keep b o e)) fun o c h' g1 g2 g3 g4 => ?_
    exact ⟨_, rfl, wpAny_pure ⟨_, rfl, h o _ c h' g1 g2 (Nat.le_succ _) (fun b u e => g3 b u (ne b u e) (keep b u e)) g4⟩⟩
end
end ZS

/-! OWN RULES: list(d) of a dict whose keys are tuples; sorted(l) of a list of tuples of ints -/
namespace ZG
open PySem
open Sem (wp)
theorem walks_raw {prog : Program} {w : World} {A : Around} (hh : A.handled = none) (it d : Addr) (hne : d ≠ it) (o : Obj) (es : Array DictEntry) (ep : Nat) (hd : o.data = .dict es ep) :
    Walks prog w A it [it, d] [it] es.size (fun i v => ∃ e, es[i]? = some e ∧ v = e.key) (fun i h => h.IsKeyIter it d i es.size ep ∧ h.get? d = some o) where
  sub := fun b hb => by simp at hb; simp [hb]
  frame := fun _ _ _ st hk => ⟨st.1.at fun o e => hk it (by simp) o e, hk d (by simp) o st.2⟩
  item := fun i s Q E hi st hQ => by
    have hx : es[i]? = some es[i] := Array.getElem?_eq_getElem hi
    refine dNext st.1 st.2 hd hx fun h' hit' hs' => ?_
    exact hQ _ h' s.toks ⟨_, hx, rfl⟩ ⟨hit', hs'.extBut d o hne st.2⟩ fun b o hb e => hs'.extBut b o (fun z => hb (by simp [z])) e
  done := fun s Q E st hQ => dEnd hh st.1 st.2 hd (Array.getElem?_eq_none (Nat.le_refl _)) fun h' he' => hQ h' s.toks fun b o hb e => he' b o (fun z => hb (by simp [z])) e
  self := fun _ _ _ _ st hQ => wpAny_pyIter_keyiter st.1 hQ
theorem src_raw {prog : Program} {w : World} {d : Addr} {o : Obj} {es : Array DictEntry} {ep : Nat} (lo : (d == sysModules) = false) (hc : o.ExactDict) (hd : o.data = .dict es ep) :
    PySem.W.KdlSrc prog w "dict" d d es.size (fun i v => ∃ e, es[i]? = some e ∧ v = e.key) (fun h => h.get? d = some o) where
  type := fun _ hm => ⟨o, hm, hc.1⟩
  there := fun _ hm => ⟨Heap.lt_size hm, Heap.lt_size hm⟩
  keep := fun _ _ hm hk => hk d (.inl rfl) o hm
  notList := by decide
  notTuple := by decide
  hint := fun _ _ _ _ hm hq => PySem.W.kdl_hint_dict ⟨o, hm, hc.1⟩ hq
  iter := fun _ _ hh hm => ⟨_, _, (fun _ _ hq => dIter lo hm hc hd hq), walks_raw hh _ d (Nat.ne_of_lt (Heap.lt_size hm)) o es ep hd, ⟨⟨_, Heap.get?_push_size _ rfl, rfl, rfl⟩, Heap.get?_push_of_some _ hm⟩⟩
end ZG
namespace L2
open PySem PySem.Spec PyProof.Rows
section
variable {X : Cx}
theorem call_listD (hc : X.calm = true) : CallR X (.type "list") (fun xs H Q => ∃ d kvs, xs = [.ref d] ∧ H d = some (.dT kvs) ∧ ∀ bs : List Addr, Paired (fun (b : Addr) (p : List Key × V) => H b = some (.tup (p.1.map kV))) bs kvs → (kvs.map (·.1)).Nodup → New (.lst (bs.map V.ref)) H Q) := by
  intro pins s σ H xs us Q I r h
  obtain ⟨d, kvs, rfl, hd, q⟩ := h
  obtain ⟨u, rfl, ru⟩ := vals1 r
  cases ru
  obtain ⟨z, lo, xs, kt, o, es, ep, g1, g2, g3, g4, g5⟩ := (show ObjOk X.prog X.w H s.heap d (.dT kvs) from I.hok d _ hd)
  have hes : es.size = kvs.length := by
    rw [← Array.length_toList, g4, List.length_map]
    exact (Paired.length kt).symm
  refine PySem.W.kdl_call (ZG.src_raw lo g2 g3) (I.ok.hd hc) g1 (by omega) fun h' tk acc c kp e it => ?_
  have hacc : acc.toList = (xs.map fun x => x.2.1).map Value.ref := by
    refine List.ext_getElem? fun j => ?_
    rw [Array.getElem?_toList, List.getElem?_map, List.getElem?_map]
    by_cases hj : j < es.size
    · have hx : j < xs.length := by rw [← Array.length_toList, g4, List.length_map] at hj; exact hj
      have hja : j < acc.size := by rw [it.1]; exact hj
      have ha : acc[j]? = some acc[j] := Array.getElem?_eq_getElem hja
      obtain ⟨en, e1, e2⟩ := it.2 j _ ha
      rw [ha, e2, List.getElem?_eq_getElem hx]
      rw [← Array.getElem?_toList, g4, List.getElem?_map, List.getElem?_eq_getElem hx] at e1
      cases e1
      rfl
    · have hx : ¬ j < xs.length := by rw [← Array.length_toList, g4, List.length_map] at hj; exact hj
      rw [Array.getElem?_eq_none (by rw [it.1]; omega), List.getElem?_eq_none (by omega)]
      rfl
  have rel : ∀ (l : List Addr), Vals (l.map V.ref) (l.map Value.ref) := fun l => by
    induction l with
    | nil => exact .nil
    | cons a t ih => exact .cons rfl ih
  have hq : ∀ {kvs' : List (List Key × V)} {xs' : List (List Key × Addr × Value)}, KT H kvs' xs' → Paired (fun (b : Addr) (p : List Key × V) => H b = some (.tup (p.1.map kV))) (xs'.map fun x => x.2.1) kvs' := fun {kvs' xs'} k => by
    induction k with
    | nil => exact .nil
    | cons h t ih => exact .cons h.2.1 ih
  have ek : ∀ {kvs' : List (List Key × V)} {xs' : List (List Key × Addr × Value)}, KT H kvs' xs' → kvs'.map (·.1) = xs'.map fun x => x.1 := fun {kvs' xs'} k => by
    induction k with
    | nil => rfl
    | cons h t ih => rw [List.map_cons, List.map_cons, ih, h.1]
  have e' : h'.get? s.heap.objs.size = some { cls := .type "list", dict := none, data := .seq ((xs.map fun x => x.2.1).map Value.ref).toArray c, slots := #[] } := by
    rw [← hacc]
    exact e
  exact ⟨.ref s.heap.objs.size, _, I.laid (t' := tk) kp (Nat.le_refl _) (show ObjOk X.prog X.w _ h' _ (.lst ((xs.map fun x => x.2.1).map V.ref)) from ⟨by rw [List.length_map, List.length_map, ← Paired.length kt]; omega, _, c, rel _, e'⟩), rfl, (q _ (hq kt) (by rw [ek kt]; exact g5)).at (I.hok.fresh (Nat.le_refl _))⟩
/-- a row of tuples of ints -/
abbrev RowsV (K : PySem.W.Frag) (H : Hp) : List V → List (List Int) → Prop := Paired fun v k => k ≠ [] ∧ ∃ b, v = .ref b ∧ SqT K H b (k.map V.int)
theorem rows_raw {pins : List (Addr × Obj)} {σ : St} {H : Hp} {s : Shared} (I : Inv X pins σ H s) : ∀ {ys : List V} {its : List Value} {ks : List (List Int)}, Vals ys its → RowsV X.K H ys ks → (∀ v ∈ its, ZS.TupI s.heap v ∧ ∃ b, v = .ref b ∧ ZS.keyV s.heap v ≠ [] ∧ SqT X.K H b ((ZS.keyV s.heap v).map V.int)) ∧ its.map (ZS.keyV s.heap) = ks
  | _, _, _, .nil, .nil => ⟨fun v hv => (nomatch hv), rfl⟩
  | _, _, _, @Paired.cons _ _ _ _ v _ its hv tv, @Paired.cons _ _ _ _ k _ ks hk tk => by
    obtain ⟨hne, b, rfl, hb⟩ := hk
    cases hv
    obtain ⟨j1, j2⟩ := rows_raw I tv tk
    obtain ⟨its', r', ⟨o, ho, hc, n, hd⟩, hz⟩ := I.tuple hb
    obtain ⟨ps, e1, e2⟩ := vals_toks r'
    have kv : ZS.keyV s.heap (.ref b) = k := by
      rw [ZS.keyV_at ho hd]
      show its'.map ZS.intV = k
      rw [e1, List.map_map, ← e2]
      rfl
    refine ⟨fun w hw => ?_, by rw [List.map_cons, kv, j2]⟩
    rcases List.mem_cons.mp hw with e | e
    · subst e
      refine ⟨⟨b, o, _, n, rfl, ho, hc, hd, fun v hv => ?_, ?_⟩, b, rfl, by rw [kv]; exact hne, by rw [kv]; exact hb⟩
      · have hv : v ∈ its' := hv
        rw [e1] at hv
        obtain ⟨p, _, e⟩ := List.mem_map.mp hv
        exact ⟨p.1, p.2, e.symm⟩
      · rw [List.size_toArray, e1, List.length_map, ← List.length_map (f := (·.1)), e2]
        exact List.length_pos_iff.mpr hne
    · exact j1 w e
theorem call_sortedT : CallR X (.builtin "sorted") (fun xs H Q => ∃ p ys ks, xs = [.ref p] ∧ SqL X.K H p ys ∧ RowsV X.K H ys ks ∧ ∀ zs ls, RowsV X.K H zs ls → ls.Perm ks → ls.Pairwise (fun x y => ZS.ltL y x = false) → New (.lst zs) H Q) := by
  intro pins s σ H xs us Q I r h
  obtain ⟨p, ys, ks, rfl, hq, hr, q⟩ := h
  obtain ⟨u, rfl, ru⟩ := vals1 r
  cases ru
  obtain ⟨its, rv, pl, hz⟩ := I.list hq
  have hlen := rv.length
  obtain ⟨f1, f2⟩ := rows_raw I rv hr
  refine ZS.sorted_any (kd := tuples' true) (rk := fun x => ZS.rnk ZS.ltL ks (ZS.keyV s.heap x.1)) (S := fun x => x.1 ∈ its) pl.isList (by omega) (fun v hv => hv) (fun h' kp {Q} {E} hne q => ZS.kind_tup (h0 := s.heap) (fun v hv => (f1 v hv).1) (fun b o e _ => kp b o e) hne q)
    (fun h' E kp => ZS.ltOk_tup (h0 := s.heap) (ks := ks) (fun x hx => ⟨(f1 _ hx).1, by rw [← f2]; exact List.mem_map_of_mem hx⟩) fun b o e _ => kp b o e) fun o a c h' op os ha kp e => ?_
  have mem : ∀ v ∈ o, v ∈ its := fun v hv => op.mem_iff.mp hv
  have mk : ∀ (l : List Value), (∀ v ∈ l, v ∈ its) → ∃ zs, Vals zs l ∧ RowsV X.K H zs (l.map (ZS.keyV s.heap)) ∧ zs.length = l.length := by
    intro l
    induction l with
    | nil => exact fun _ => ⟨[], .nil, .nil, rfl⟩
    | cons v t ih =>
      intro hl
      obtain ⟨zs, k1, k2, k3⟩ := ih fun v hv => hl v (.tail _ hv)
      obtain ⟨_, b, e, k4, k5⟩ := f1 v (hl v (.head _))
      exact ⟨.ref b :: zs, .cons e k1, .cons ⟨k4, b, rfl, k5⟩ k2, by rw [List.length_cons, List.length_cons, k3]⟩
  obtain ⟨zs, k1, k2, k3⟩ := mk o mem
  refine ⟨.ref a, _, I.laid (t' := s.toks) kp ha (show ObjOk X.prog X.w _ h' _ (.lst zs) from ⟨by rw [k3, op.length_eq]; omega, o, c, k1, e⟩), rfl, (q zs _ k2 ?_ ?_).at (I.hok.fresh ha)⟩
  · rw [← f2]
    exact op.map _
  · rw [List.pairwise_map]
    refine List.Pairwise.imp_of_mem (fun {x y} hx hy hxy => ?_) os
    cases z : ZS.ltL (ZS.keyV s.heap y) (ZS.keyV s.heap x)
    · rfl
    · have := ZS.rnk_lt ZS.totL (ks := ks) (by rw [← f2]; exact List.mem_map_of_mem (mem y hy)) z
      exact absurd this (Nat.not_lt.mpr hxy)
end
end L2

namespace Mp
open PySem L2
def top (i : Nat) : Stmt := PySem.Challenge.pw_millpath_k18_marks_and_ways.main.body.getD i (.Pass ⟨0, 0, 0, 0⟩)
abbrev s_is_number : Stmt := top 1
abbrev s_is_row : Stmt := top 2
abbrev s_are_numbers : Stmt := top 3
abbrev s_inner_point : Stmt := top 6
abbrev s_octo_of : Stmt := top 8
abbrev s_is_octo : Stmt := top 9
abbrev s_all_met : Stmt := top 10
abbrev s_ends_met : Stmt := top 11
abbrev s_added : Stmt := top 12
abbrev s_moved : Stmt := top 13
abbrev s_quarters_in : Stmt := top 14
abbrev s_is_flat : Stmt := top 15
abbrev s_holds : Stmt := top 16
abbrev s_mark_of : Stmt := top 18
abbrev s_swept : Stmt := top 19
abbrev s_begin : Stmt := top 21
abbrev s_take : Stmt := top 22
abbrev s_same : Stmt := top 23
abbrev s_tool : Stmt := top 24
abbrev s_mark : Stmt := top 25
abbrev s_in_mark : Stmt := top 26
abbrev s_law : Stmt := top 27
end Mp
namespace Mp
open PySem L2
/-! ### the draws' state -/
theorem valV_hit {kvs : List (Key × V)} {k : Key} {v : V} : valV ((k, v) :: kvs) k = some v := by
  unfold valV
  rw [List.find?_cons, show (decide ((k, v).1 = k)) = true from decide_eq_true rfl]
  rfl
theorem valV_miss {kvs : List (Key × V)} {k k' : Key} {v : V} (h : ¬ k = k') : valV ((k, v) :: kvs) k' = valV kvs k' := by
  unfold valV
  rw [List.find?_cons, show (decide ((k, v).1 = k')) = false from decide_eq_false h]
theorem key_ne : ¬ ((Sum.inr ("cells" : Str) : Key) = Sum.inr ("turn" : Str)) := by decide +kernel
def stK (c : Addr) (t : Int) : List (Key × V) := [(Sum.inr ("cells" : Str), V.ref c), (Sum.inr ("turn" : Str), V.int t)]
theorem st_cells (c : Addr) (t : Int) : valV (stK c t) (Sum.inr ("cells" : Str)) = some (.ref c) := valV_hit
theorem st_turn (c : Addr) (t : Int) : valV (stK c t) (Sum.inr ("turn" : Str)) = some (.int t) := by
  unfold stK
  rw [valV_miss key_ne]
  exact valV_hit
theorem st_put (c : Addr) (t u : Int) : putK (stK c t) (Sum.inr ("turn" : Str)) (.int u) = stK c u := by
  have e : ((stK c t).any fun kv => decide (kv.1 = (Sum.inr ("turn" : Str) : Key))) = true := by
    rw [valV_any, st_turn]; rfl
  unfold putK
  rw [if_pos e]
  show [(if (Sum.inr ("cells" : Str) : Key) = Sum.inr ("turn" : Str) then _ else _), (if (Sum.inr ("turn" : Str) : Key) = Sum.inr ("turn" : Str) then _ else _)] = stK c u
  rw [if_neg key_ne, if_pos rfl]
  rfl
structure StAt (H : Hp) (st c : Addr) (cs : List Int) (t : Int) : Prop where
  d : H st = some (.dK (stK c t))
  l : H c = some (.lst (cs.map V.int))
  pos : 0 < cs.length
  len : cs.length ≤ 63
theorem StAt.ne {H : Hp} {st c : Addr} {cs : List Int} {t : Int} (S : StAt H st c cs t) : st ≠ c := ne_of S.d S.l (by intro z; cases z)
theorem StAt.same {H H' : Hp} {st c : Addr} {cs : List Int} {t : Int} (S : StAt H st c cs t) (e : Same H H') : StAt H' st c cs t := ⟨e _ _ S.d, e _ _ S.l, S.pos, S.len⟩
structure Txt (mg : Str → Option Value) : Prop where
  len : mg "len" = none
  list : mg "list" = none
  divmod : mg "divmod" = none
  isinstance : mg "isinstance" = none
  dict : mg "dict" = none
  tuple : mg "tuple" = none
  str : mg "str" = none
  int : mg "int" = none
  bool : mg "bool" = none
  all : mg "all" = none
  any : mg "any" = none
  zip : mg "zip" = none
  range : mg "range" = none
  max : mg "max" = none
  min : mg "min" = none
  abs : mg "abs" = none
  sum : mg "sum" = none
  sorted : mg "sorted" = none
  enumerate : mg "enumerate" = none
  set : mg "set" = none
def spBegin (K : PySem.W.Frag) : Sp := fun vs H Q _ => ∃ (a : Addr) (ns : List Int), vs = [.ref a] ∧ SqL K H a (ns.map V.int) ∧ ns.length ≤ 63 ∧ ∀ (st c : Addr) (cs : List Int) (H' : Hp), H st = none → H c = none → StAt H' st c cs 0 → Same H H' → Q (.ref st) H'
def spTake : Sp := fun vs H Q _ => ∃ (st c : Addr) (cs : List Int) (t m : Int), vs = [.ref st, .int m] ∧ StAt H st c cs t ∧ 0 ≤ t ∧ t < 2 ^ 40 ∧ 0 < m ∧ m < 1073741824 ∧
  ∀ (r : Int) (cs' : List Int) (H' : Hp), 0 ≤ r → r < m → StAt H' st c cs' (t + 1) → Kp st c H H' → Q (.int r) H'
section
variable {P : Program} {w : World} {K : PySem.W.Frag} {mg : Str → Option Value} {base : Heap}
theorem scB : FnScope ["_law_script", "_law_cells"] ["_law_script"] (defScope s_begin) := ⟨rfl, rfl, rfl, by decide +kernel, rfl, by decide +kernel, by decide +kernel⟩
theorem ok_begin {f : Addr} {fd : FuncData} (F : Fun K "_law_begin" "_law_begin" s_begin f fd) (T : Txt mg) : FnOk P w K mg base CX0 1 f fd ["_law_script"] (spBegin K) := by
  refine F.ok scB (fun vs H Q E h => ?_) (fun cdv A outer s H vs Q E hr h => ?_)
  · obtain ⟨a, ns, rfl, _⟩ := h
    rfl
  obtain ⟨a, ns, rfl, hS, h63, q⟩ := h
  have sc := @scB
  refine ⟨_, (pss_cons (ps_set (i := 1) sc.nd rfl (Or.inl rfl) (pe_callTy call_list_of (by rfl) T.list (by decide +kernel) (pa_cons (pe_slice sl_list (pv 0) po_none (po_some pe_int)) pa_nil)))
    (pss_cons (ps_if (pt_cmpR op_eqD (pv 1) (pe_lst pa_nil) (nomark _)) (pss_one (ps_set (i := 1) sc.nd rfl (Or.inl rfl) (pe_lst (pa_cons pe_int pa_nil)))) pss_nil)
    (pss_one (ps_ret (pe_disp (pps_cons pe_str (pv 1) (pps_cons pe_str pe_int pps_nil)) rfl rfl (by intro z; cases z) (by decide)))))), ?_⟩
  refine ⟨_, rfl, _, rfl, a, _, rfl, hS, fun p hp => ⟨p, _, rfl, .inl (SqL.of upd_same), fun l hl => ?_⟩⟩
  obtain ⟨zs, ez, lz⟩ : ∃ zs : List Int, cutV (ns.map V.int) none (some 63) = zs.map V.int ∧ zs.length ≤ 63 := by
    refine ⟨_, by unfold cutV; rw [← List.map_drop, ← List.map_take], ?_⟩
    exact Nat.le_trans (List.length_take_le' _ _) (Nat.le_trans (by rw [List.length_drop]; omega) h63)
  have hp0 : H p = none := hp
  have hl0 : H l = none := (same_new hp _).none hl
  have g1 : Same H (upd (upd H p (.lst (cutV (ns.map V.int) none (some 63)))) l (.lst (cutV (ns.map V.int) none (some 63)))) := (same_new hp _).trans' (same_new hl _)
  refine ⟨_, rfl, (by show 0 ≤ sizeLine; decide), fun e he => ?_⟩
  have hul : ∀ o, upd (upd (upd H p (.lst (cutV (ns.map V.int) none (some 63)))) l (.lst (cutV (ns.map V.int) none (some 63)))) e o l = some (.lst (zs.map V.int)) := fun o => by
    rw [upd_ne (ne_of_none upd_same he), upd_same, ez]
  have he0 : H e = none := g1.none he
  have g2 := g1.trans' (same_new he (.lst []))
  refine ⟨.lst (di zs), .lst (di []), has_lstI (SqL.of (hul _)), has_lstI (SqL.of upd_same), ?_, _, rfl, ?_⟩
  · have := hu_of hr
    rw [dpt, dptL_ints]
    exact this
  have fin : ∀ (c : Addr) (cs : List Int) (H2 : Hp), H c = none → Same H H2 → H2 c = some (.lst (cs.map V.int)) → 0 < cs.length → cs.length ≤ 63 → ∀ p, H2 p = none → StAt (upd (upd H2 p (.dK [])) p (.dK (mergeK [] [(Sum.inr ("cells" : Str), V.ref c), (Sum.inr ("turn" : Str), V.int 0)]))) p c cs 0 ∧ Same H (upd (upd H2 p (.dK [])) p (.dK (mergeK [] [(Sum.inr ("cells" : Str), V.ref c), (Sum.inr ("turn" : Str), V.int 0)]))) := fun c cs H2 hc g h1 h2 h3 p hp => by
    have em : mergeK [] [((Sum.inr ("cells" : Str) : Key), V.ref c), (Sum.inr ("turn" : Str), V.int 0)] = stK c 0 := by
      show putK (putK ([] : List (Key × V)) (Sum.inr ("cells" : Str)) (V.ref c)) (Sum.inr ("turn" : Str)) (V.int 0) = stK c 0
      rw [putK_new _ (show valV ([] : List (Key × V)) (Sum.inr ("cells" : Str)) = none from rfl), List.nil_append, putK_new _ (show valV [((Sum.inr ("cells" : Str) : Key), V.ref c)] (Sum.inr ("turn" : Str)) = none by rw [valV_miss key_ne]; rfl)]
      rfl
    rw [em, upd_upd]
    exact ⟨⟨upd_same, by rw [upd_ne (ne_of_none h1 hp)]; exact h1, h2, h3⟩, g.trans' (same_new hp _)⟩
  refine iteB (fun c => ?_) (fun c => ?_)
  · -- an empty script: [7]
    refine ⟨(by show 1 ≤ sizeLine; decide), fun c7 h7 => ?_⟩
    have g3 := g2.trans' (same_new h7 (.lst [V.int 7]))
    intro p' hp'
    obtain ⟨S, g4⟩ := fin c7 [7] _ (g2.none h7) g3 upd_same (by decide) (by decide) p' hp'
    refine ⟨_, rfl, ?_, [(Sum.inr ("cells" : Str), V.ref c7), (Sum.inr ("turn" : Str), V.int 0)], rfl, (by show 2 ≤ 15; decide), ?_⟩
    · exact upd_same
    · exact q p' c7 [7] _ (g3.none hp') (g2.none h7) S g4
  · have c0 : 0 < zs.length := by
      cases zs with
      | nil => rw [eqD_same] at c; cases c
      | cons a r => exact Nat.succ_pos _
    intro p' hp'
    obtain ⟨S, g4⟩ := fin l zs _ hl0 g2 (hul _) c0 lz p' hp'
    refine ⟨_, rfl, ?_, [(Sum.inr ("cells" : Str), V.ref l), (Sum.inr ("turn" : Str), V.int 0)], rfl, (by show 2 ≤ 15; decide), ?_⟩
    · exact upd_same
    · exact q p' l zs _ (g2.none hp') hl0 S g4
theorem scT : FnScope ["_law_state", "_law_many", "_law_turn", "_law_place", "_law_cell", "_law_digit", "_law_mixed"] ["_law_state", "_law_many"] (defScope s_take) := ⟨rfl, rfl, rfl, by decide +kernel, rfl, by decide +kernel, by decide +kernel⟩
theorem ok_take {f : Addr} {fd : FuncData} (F : Fun K "_law_take" "_law_take" s_take f fd) (T : Txt mg) : FnOk P w K mg base CX0 1 f fd ["_law_state", "_law_many"] spTake := by
  refine F.ok scT (fun vs H Q E h => ?_) (fun cdv A outer s H vs Q E hr h => ?_)
  · obtain ⟨st, c, cs, t, m, rfl, _⟩ := h
    rfl
  obtain ⟨st, c, cs, t, m, rfl, S, ht0, ht, hm0, hm1, q⟩ := h
  have sc := @scT
  have hu := hu_of hr
  refine ⟨_, (pss_cons (ps_set (i := 2) sc.nd rfl (Or.inl rfl) (pe_op op_add (pe_dget hu (pv 0) pe_str (fun _ _ => rfl)) pe_int))
    (pss_cons (ps_dput hu (pv 0) pe_str (pv 2) rfl)
    (pss_cons (ps_set (i := 3) sc.nd rfl (Or.inl rfl) (pe_op op_mod (pv 2) (pe_callB call_len_seq (by rfl) T.len (by decide +kernel) (pa_cons (pe_dget hu (pv 0) pe_str (fun _ _ => rfl)) pa_nil))))
    (pss_cons (ps_set (i := 4) sc.nd rfl (Or.inl rfl) (pe_ix ix_list (pe_dget hu (pv 0) pe_str (fun _ _ => rfl)) (pv 3) (fun _ _ => rfl)))
    (pss_cons (ps_if (pt_cmpR op_ge (pv 4) (pe_op op_pow pe_int pe_int) (nomark _)) (pss_cons (ps_asg (pe_callB call_divmod (by rfl) T.divmod (by decide +kernel) (pa_cons (pv 4) (pa_cons (pv 1) pa_nil))) (pg_tup rfl (pgs_cons (pg_sub (pe_dget hu (pv 0) pe_str (fun _ _ => rfl)) (pv 3) set_list) (pgs_cons (pg_name (i := 5) sc.nd rfl (Or.inl rfl)) pgs_nil))))
    (pss_one (ps_ret (pv 5)))) pss_nil)
    (pss_cons (ps_set (i := 6) sc.nd rfl (Or.inl rfl) (pe_op op_mod (pe_op op_mul (pe_op op_add (pe_op op_add (pe_op op_mod (pv 4) pe_int) (pe_op op_mul (pe_op op_mul (pv 2) (pv 2)) pe_int)) pe_int) pe_int) pe_int))
    (pss_cons (ps_set (i := 6) sc.nd rfl (Or.inl rfl) (pe_op op_mod (pe_op op_mul (pv 6) (pv 6)) pe_int))
    (pss_one (ps_ret (pe_op op_mod (pe_op op_fdiv (pe_op op_mod (pe_op op_mul (pe_op op_add (pv 6) (pe_op op_mul (pv 2) pe_int)) pe_int) pe_int) pe_int) (pv 1))))))))))), ?_⟩
  -- turn = state['turn'] + 1
  have D0 : DGet H st (.str ("turn" : Str)) (some (.int t)) := by rw [← st_turn c t]; exact DGet.k (k := Sum.inr ("turn" : Str)) S.d
  refine ⟨_, rfl, st, _, rfl, D0, _, _, rfl, rfl, ?_⟩
  -- state['turn'] = turn
  have hP : DPut H st (.str ("turn" : Str)) (.int (t + 1)) (upd H st (.dK (stK c (t + 1)))) := by
    rw [← st_put c t (t + 1)]
    exact DPut.k (k := Sum.inr ("turn" : Str)) S.d (by show 2 < sizeLine; decide)
  refine ⟨_, rfl, _, rfl, st, _, rfl, hP, ?_⟩
  have S1 : StAt (upd H st (.dK (stK c (t + 1)))) st c cs (t + 1) := ⟨upd_same, by rw [upd_ne S.ne.symm]; exact S.l, S.pos, S.len⟩
  have K1 : Kp st c H (upd H st (.dK (stK c (t + 1)))) := fun b o e n1 n2 => by rw [upd_ne n1]; exact e
  generalize upd H st (.dK (stK c (t + 1))) = H1 at S1 K1 ⊢
  have D1 : DGet H1 st (.str ("cells" : Str)) (some (.ref c)) := by rw [← st_cells c (t + 1)]; exact DGet.k (k := Sum.inr ("cells" : Str)) S1.d
  have hl : (cs.map V.int).length = cs.length := List.length_map _
  have hpos : (0 : Int) < (((cs.map V.int).length : Nat) : Int) := by rw [hl]; have := S.pos; omega
  -- place = turn % len(cells)
  refine ⟨_, rfl, _, rfl, st, _, rfl, D1, c, _, rfl, .inl (SqL.of S1.l), _, _, rfl, rfl, hpos, ?_⟩
  have j0 : 0 ≤ (t + 1) % (((cs.map V.int).length : Nat) : Int) := Int.emod_nonneg _ (by omega)
  have j1 : (t + 1) % (((cs.map V.int).length : Nat) : Int) < (cs.length : Int) := by
    have := Int.emod_lt_of_pos (t + 1) hpos
    rw [hl] at this ⊢
    exact this
  -- cell = cells[place]
  obtain ⟨v, hat⟩ : ∃ v : Int, atI (cs.map V.int) ((t + 1) % (((cs.map V.int).length : Nat) : Int)) = some (.int v) := ⟨_, atI_ints j0 j1⟩
  refine ⟨_, rfl, st, _, rfl, D1, _, rfl, c, _, _, _, rfl, rfl, SqL.of S1.l, hat, ?_⟩
  -- if cell >= 10 ** 18
  refine ⟨_, rfl, _, _, rfl, rfl, ⟨by decide, by decide, by decide⟩, _, _, rfl, rfl, _, rfl, ?_⟩
  refine iteB (fun hc => ?_) (fun hc => ?_)
  · -- divmod
    refine ⟨_, rfl, _, rfl, _, _, rfl, ⟨hm0, hm1⟩, fun p hp => ?_⟩
    have g := same_new hp (.tup [.int (v / m), .int (v % m)])
    have S2 := S1.same g
    have D2 : DGet (upd H1 p (.tup [.int (v / m), .int (v % m)])) st (.str ("cells" : Str)) (some (.ref c)) := by rw [← st_cells c (t + 1)]; exact DGet.k (k := Sum.inr ("cells" : Str)) S2.d
    refine ⟨p, _, rfl, SqT.of upd_same, rfl, _, _, rfl, ?_⟩
    refine ⟨_, rfl, st, _, rfl, D2, _, rfl, c, _, _, ((t + 1) % (((cs.map V.int).length : Nat) : Int)).toNat, rfl, rfl, S2.l, ixN_int j0 (by rw [hl]; rw [hl] at j1; exact j1), ?_⟩
    refine ⟨_, _, rfl, rfl, ?_⟩
    refine ⟨_, rfl, ?_⟩
    have es : ∀ j : Nat, (cs.map V.int).set j (.int (v / m)) = (cs.set j (v / m)).map V.int := fun j => by rw [List.map_set]
    refine q (v % m) (cs.set ((t + 1) % (((cs.map V.int).length : Nat) : Int)).toNat (v / m)) _ (Int.emod_nonneg _ (by omega)) (Int.emod_lt_of_pos _ hm0) ⟨?_, ?_, ?_, ?_⟩ ?_
    · rw [upd_ne S2.ne]; exact S2.d
    · rw [upd_same, es]
    · rw [List.length_set]; exact S.pos
    · rw [List.length_set]; exact S.len
    · intro b o e n1 n2
      rw [upd_ne n2]
      exact g b o (K1 b o e n1 n2)
  · -- mixed
    have mulR : ∀ (x y : Int), -(2 ^ 64) < y → y < 2 ^ 64 → CMul x y := fun x y h1 h2 => .inr ⟨h1, h2⟩
    refine ⟨_, rfl, _, _, rfl, rfl, (by show (0 : Int) < 2147483629; decide), _, rfl, _, rfl, _, _, rfl, rfl, mulR _ _ (by omega) (by omega), _, _, rfl, rfl, mulR _ _ (by decide) (by decide), _, _, rfl, rfl, _, _, rfl, rfl, _, _, rfl, rfl, mulR _ _ (by decide) (by decide), _, _, rfl, rfl, (by show (0 : Int) < 2147483647; decide), ?_⟩
    generalize hM : (v % 2147483629 + (t + 1) * (t + 1) * 7919 + 11) * 48271 % 2147483647 = M
    have m0 : 0 ≤ M := by rw [← hM]; exact Int.emod_nonneg _ (by decide)
    have m1 : M < 2147483647 := by rw [← hM]; exact Int.emod_lt_of_pos _ (by decide)
    refine ⟨_, rfl, _, rfl, _, _, rfl, rfl, mulR _ _ (by omega) (by omega), _, _, rfl, rfl, (by show (0 : Int) < 2147483587; decide), ?_⟩
    refine ⟨_, rfl, _, rfl, _, _, rfl, rfl, mulR _ _ (by decide) (by decide), _, _, rfl, rfl, _, _, rfl, rfl, mulR _ _ (by decide) (by decide), _, _, rfl, rfl, (by show (0 : Int) < 2147483629; decide), _, _, rfl, rfl, ⟨by decide, by decide⟩, _, rfl, _, _, rfl, rfl, hm0, ?_⟩
    exact q _ cs H1 (Int.emod_nonneg _ (by omega)) (Int.emod_lt_of_pos _ hm0) S1 K1
end
end Mp

namespace Mp
open PySem L2
/-! ### _law_same of equal data -/
mutual
def gd : Dt → Bool
  | .bl _ => false
  | .lst ds => decide (ds.length ≤ 100000) && gdL ds
  | .tup ds => decide (ds.length ≤ 100000) && gdL ds
  | _ => true
def gdL : List Dt → Bool
  | [] => true
  | d :: r => gd d && gdL r
end
theorem gdL_get : ∀ {ds : List Dt} {i : Nat} {d : Dt}, gdL ds = true → ds[i]? = some d → gd d = true
  | [], i, d, _, e => by simp at e
  | c :: r, 0, d, h, e => by
    rw [gdL, Bool.and_eq_true] at h
    simp at e
    subst e
    exact h.1
  | c :: r, i + 1, d, h, e => by
    rw [gdL, Bool.and_eq_true] at h
    exact gdL_get h.2 (i := i) (by simpa using e)
theorem gdL_ints : ∀ ns : List Int, gdL (di ns) = true
  | [] => by simp [di, gdL]
  | n :: r => by
    have ih := gdL_ints r
    show gdL (Dt.int n :: di r) = true
    simp [gdL, gd, ih]
theorem gd_tup {ns : List Int} (h : ns.length ≤ 100000) : gd (.tup (di ns)) = true := by
  rw [gd, gdL_ints, decide_eq_true (by rw [di, List.length_map]; exact h)]; rfl
def spSame (K : PySem.W.Frag) (n : Nat) : Sp := fun vs H Q _ => ∃ (x y : V) (d : Dt), vs = [x, y] ∧ Has K H d x ∧ Has K H d y ∧ gd d = true ∧ dpt d < n ∧ ∀ H', Same H H' → Q (.bl true) H'
theorem map_same {α : Type} (n : Nat) (c : α) : (List.range n).map (fun _ => c) = List.replicate n c := by
  induction n with
  | zero => rfl
  | succ n ih => rw [List.range_succ, List.map_append, ih, List.map_singleton, List.replicate_succ']
theorem filter_true (n : Nat) : (List.range n).filter (fun _ => true) = List.range n := by simp
theorem has_ty {K : PySem.W.Frag} {H : Hp} : ∀ {d : Dt} {x : V}, Has K H d x → ∃ t, TyG K H x t ∧ t = (match d with | .int _ => Ty.int | .bl _ => .bl | .str _ => .str | .non => .non | .lst _ => .lst | .tup _ => .tup)
  | .int i, x, h => by rw [Has] at h; subst h; exact ⟨_, .int i, rfl⟩
  | .bl i, x, h => by rw [Has] at h; subst h; exact ⟨_, .bl i, rfl⟩
  | .str i, x, h => by rw [Has] at h; subst h; exact ⟨_, .str i, rfl⟩
  | .non, x, h => by rw [Has] at h; subst h; exact ⟨_, .non, rfl⟩
  | .lst ds, x, h => by rw [Has] at h; obtain ⟨a, xs, rfl, hs, _⟩ := h; exact ⟨_, .lst hs, rfl⟩
  | .tup ds, x, h => by rw [Has] at h; obtain ⟨a, xs, rfl, hs, _⟩ := h; exact ⟨_, .tup hs, rfl⟩
section
variable {P : Program} {w : World} {K : PySem.W.Frag} {mg : Str → Option Value} {base : Heap}
theorem scS : FnScope ["_law_found", "_law_due"] ["_law_found", "_law_due"] (defScope s_same) := ⟨rfl, rfl, rfl, by decide +kernel, rfl, by decide +kernel, by decide +kernel⟩
set_option maxHeartbeats 1000000 in
theorem ok_same {n : Nat} {f : Addr} {fd : FuncData} (F : Fun K "_law_same" "_law_same" s_same f fd) (T : Txt mg) (G_same : Cal P w K mg base n "_law_same" ["_law_found", "_law_due"] (spSame K n)) :
    FnOk P w K mg base CX0 (n + 1) f fd ["_law_found", "_law_due"] (spSame K (n + 1)) := by
  refine F.ok scS (fun vs H Q E h => ?_) (fun cdv A outer s H vs Q E hr h => ?_)
  · obtain ⟨x, y, d, rfl, _⟩ := h
    rfl
  obtain ⟨x, y, d, rfl, hx, hy, hg, hd, q⟩ := h
  have sc := @scS
  have nd2 : (["_law_one", "_law_other"] : List Str).Nodup := by decide +kernel
  refine ⟨_, (pss_cons (ps_if (pt_cmp (pc_isN (pv 1))) (pss_one (ps_ret (pe_cmp (pc_isN (pv 0))))) pss_nil)
    (pss_cons (ps_if (pt_val (pe_callB call_isinst (by rfl) T.isinstance (by decide +kernel) (pa_cons (pv 1) (pa_cons (pe_bltn (v := .ty (Ty.nm .dct)) (by rfl) T.dict (by decide +kernel) rfl) pa_nil)))) pss_never pss_nil)
    (pss_cons (ps_if (PW.pt (pw_or (pt_val (pe_callB call_isinst (by rfl) T.isinstance (by decide +kernel) (pa_cons (pv 1) (pa_cons (pe_bltn (v := .ty (Ty.nm .lst)) (by rfl) T.list (by decide +kernel) rfl) pa_nil)))) (pw_or1 (pt_val (pe_callB call_isinst (by rfl) T.isinstance (by decide +kernel) (pa_cons (pv 1) (pa_cons (pe_bltn (v := .ty (Ty.nm .tup)) (by rfl) T.tuple (by decide +kernel) rfl) pa_nil)))))))
      (pss_cons (ps_if (pt_cmpR op_ne (pe_callB call_isinst (by rfl) T.isinstance (by decide +kernel) (pa_cons (pv 0) (pa_cons (pe_bltn (v := .ty (Ty.nm .lst)) (by rfl) T.list (by decide +kernel) rfl) pa_nil))) (pe_callB call_isinst (by rfl) T.isinstance (by decide +kernel) (pa_cons (pv 1) (pa_cons (pe_bltn (v := .ty (Ty.nm .lst)) (by rfl) T.list (by decide +kernel) rfl) pa_nil))) (nomark _)) (pss_one (ps_ret pe_bl)) pss_nil)
      (pss_cons (ps_if (PW.pt (pw_or (pt_cmpR op_ne (pe_callB call_isinst (by rfl) T.isinstance (by decide +kernel) (pa_cons (pv 0) (pa_cons (pe_bltn (v := .ty (Ty.nm .tup)) (by rfl) T.tuple (by decide +kernel) rfl) pa_nil))) (pe_callB call_isinst (by rfl) T.isinstance (by decide +kernel) (pa_cons (pv 1) (pa_cons (pe_bltn (v := .ty (Ty.nm .tup)) (by rfl) T.tuple (by decide +kernel) rfl) pa_nil))) (nomark _)) (pw_or1 (pt_cmpR op_ne (pe_callB call_len_seq (by rfl) T.len (by decide +kernel) (pa_cons (pv 0) pa_nil)) (pe_callB call_len_seq (by rfl) T.len (by decide +kernel) (pa_cons (pv 1) pa_nil)) (nomark _))))) (pss_one (ps_ret pe_bl)) pss_nil)
      (pss_one (ps_ret (pe_callB (call_all rfl) (by rfl) T.all (by decide +kernel) (pa_cons (pe_compF sc ["_law_one", "_law_other"] [none, none] nd2 (by decide +kernel) (pi_zip (by rfl) T.zip (pa_cons (pv 0) (pa_cons (pv 1) pa_nil))) (fun _ _ _ => (pg_tup rfl (pgs_cons (pg_name (i := 0) nd2 rfl (Or.inl rfl) (Or.inr rfl)) (pgs_cons (pg_name (i := 1) nd2 rfl (Or.inl rfl) (Or.inr rfl)) pgs_nil)))) (fun _ _ _ => pts_nil) (fun _ _ _ => (pe_def G_same hr (by rfl) (pa_cons (pv 0) (pa_cons (pv 1) pa_nil))))) pa_nil)))))) pss_nil)
    (pss_cons (ps_if (pt_val (pe_callB call_isinst (by rfl) T.isinstance (by decide +kernel) (pa_cons (pv 1) (pa_cons (pe_bltn (v := .ty (Ty.nm .str)) (by rfl) T.str (by decide +kernel) rfl) pa_nil)))) (pss_one (ps_ret (pe_and (pe_callB call_isinst (by rfl) T.isinstance (by decide +kernel) (pa_cons (pv 0) (pa_cons (pe_bltn (v := .ty (Ty.nm .str)) (by rfl) T.str (by decide +kernel) rfl) pa_nil))) (pe_one (pe_cmpR op_eq (pv 0) (pv 1) (nomark _)))))) pss_nil)
    (pss_one (ps_ret (pe_and (pe_callB call_isinst (by rfl) T.isinstance (by decide +kernel) (pa_cons (pv 0) (pa_cons (pe_bltn (v := .ty (Ty.nm .int)) (by rfl) T.int (by decide +kernel) rfl) pa_nil))) (pe_and (pe_not (pe_callB call_isinst (by rfl) T.isinstance (by decide +kernel) (pa_cons (pv 0) (pa_cons (pe_bltn (v := .ty (Ty.nm .bl)) (by rfl) T.bool (by decide +kernel) rfl) pa_nil)))) (pe_one (pe_cmpR op_eq (pv 0) (pv 1) (nomark _))))))))))), ?_⟩
  cases d with
  | bl b => simp [gd] at hg
  | non =>
    rw [Has] at hx hy
    subst hx hy
    refine ⟨_, rfl, _, rfl, iteBT (by decide) ⟨_, rfl, ?_⟩⟩
    exact qtrue (by decide) (q H .rfl')
  | int i =>
    rw [Has] at hx hy
    subst hx hy
    refine ⟨_, rfl, _, rfl, iteBF (by simp) ?_⟩
    refine ⟨_, rfl, _, _, .int, [.dct], rfl, .int i, .inl ⟨_, rfl, rfl⟩, _, rfl, iteBF (by decide) ?_⟩
    refine ⟨_, rfl, _, _, .int, [.lst], rfl, .int i, .inl ⟨_, rfl, rfl⟩, _, rfl, iteBF (by decide) ?_⟩
    refine ⟨_, rfl, _, _, .int, [.tup], rfl, .int i, .inl ⟨_, rfl, rfl⟩, _, rfl, iteBF (by decide) ?_⟩
    refine ⟨_, rfl, _, _, .int, [.str], rfl, .int i, .inl ⟨_, rfl, rfl⟩, _, rfl, iteBF (by decide) ?_⟩
    refine ⟨_, rfl, _, _, .int, [.int], rfl, .int i, .inl ⟨_, rfl, rfl⟩, _, rfl, iteBT (by decide) ?_⟩
    refine ⟨_, rfl, _, _, .int, [.bl], rfl, .int i, .inl ⟨_, rfl, rfl⟩, _, rfl, _, rfl, iteBT (by decide) ?_⟩
    refine ⟨_, rfl, _, rfl, rfl, ?_⟩
    exact qtrue (by simp) (q H .rfl')
  | str i =>
    rw [Has] at hx hy
    subst hx hy
    refine ⟨_, rfl, _, rfl, iteBF (by simp) ?_⟩
    refine ⟨_, rfl, _, _, .str, [.dct], rfl, .str i, .inl ⟨_, rfl, rfl⟩, _, rfl, iteBF (by decide) ?_⟩
    refine ⟨_, rfl, _, _, .str, [.lst], rfl, .str i, .inl ⟨_, rfl, rfl⟩, _, rfl, iteBF (by decide) ?_⟩
    refine ⟨_, rfl, _, _, .str, [.tup], rfl, .str i, .inl ⟨_, rfl, rfl⟩, _, rfl, iteBF (by decide) ?_⟩
    refine ⟨_, rfl, _, _, .str, [.str], rfl, .str i, .inl ⟨_, rfl, rfl⟩, _, rfl, iteBT (by decide) ?_⟩
    refine ⟨_, rfl, _, _, .str, [.str], rfl, .str i, .inl ⟨_, rfl, rfl⟩, _, rfl, iteBT (by decide) ?_⟩
    refine ⟨_, rfl, _, rfl, rfl, ?_⟩
    exact qtrue (by simp) (q H .rfl')
  | lst ds =>
    rw [Has] at hx hy
    obtain ⟨a, xs, rfl, s1, l1⟩ := hx
    obtain ⟨b, ys, rfl, s2, l2⟩ := hy
    have m1 := l1.len
    have m2 := l2.len
    have hg2 : ds.length ≤ 100000 ∧ gdL ds = true := by simpa [gd] using hg
    have hd2 : dptL ds < n := by rw [dpt] at hd; omega
    refine ⟨_, rfl, _, rfl, iteBF (by simp) ?_⟩
    refine ⟨_, rfl, _, _, .lst, [.dct], rfl, .lst s2, .inl ⟨_, rfl, rfl⟩, _, rfl, iteBF (by decide) ?_⟩
    refine ⟨_, rfl, _, _, .lst, [.lst], rfl, .lst s2, .inl ⟨_, rfl, rfl⟩, _, rfl, iteBT (by decide) ?_⟩
    refine ⟨_, rfl, _, _, .lst, [.lst], rfl, .lst s1, .inl ⟨_, rfl, rfl⟩, _, rfl, _, _, .lst, [.lst], rfl, .lst s2, .inl ⟨_, rfl, rfl⟩, rfl, _, rfl, iteBF (by simp) ?_⟩
    refine ⟨_, rfl, _, _, .lst, [.tup], rfl, .lst s1, .inl ⟨_, rfl, rfl⟩, _, rfl, _, _, .lst, [.tup], rfl, .lst s2, .inl ⟨_, rfl, rfl⟩, rfl, _, rfl, iteBF (by simp) ?_⟩
    refine ⟨_, rfl, a, _, rfl, .inl s1, _, rfl, b, _, rfl, .inl s2, rfl, _, rfl, iteBF (by rw [← m1, ← m2]; simp) ?_⟩
    refine ⟨_, rfl, _, rfl, false, a, false, b, rfl, ⟨xs, s1⟩, ⟨ys, s2⟩, comp_gen (K := K) (fun σ' => σ'.length = 2) ds.length (by have := hg2.1; show ds.length < 2 ^ 24; omega) (fun _ => .bl true) (fun _ => true) (fun _ => by simp [tupO]) rfl
      (itz_go (b1 := false) (b2 := false) s1 s2 m1.symm m2.symm) (itz_stop (b1 := false) (b2 := false) s1 s2 m1.symm m2.symm) ?_ ?_⟩
    · intro s3 H3' fp i σ' H' hi ok sm x H2 hy Nx Ap _ hA
      obtain ⟨p', u, v, rfl, sm2, hp', hu, hv⟩ := itz_yld (b1 := false) (b2 := false) s1 s2 sm hy
      obtain ⟨z0, z1, rfl⟩ : ∃ z0 z1, σ' = [z0, z1] := by
        match σ', ok with
        | [z0, z1], _ => exact ⟨z0, z1, rfl⟩
      have sm3 := sm.trans' sm2
      refine ⟨p', _, rfl, SqT.of hp', rfl, u, [v], rfl, v, [], rfl, rfl, ?_⟩
      refine yes_then ?_
      refine ⟨_, rfl, _, rfl, u, v, ds[i], rfl, Has.same sm3 (l1.get (List.getElem?_eq_getElem hi) hu), Has.same sm3 (l2.get (List.getElem?_eq_getElem hi) hv), gdL_get hg2.2 (List.getElem?_eq_getElem hi), Nat.lt_of_le_of_lt (dptL_get (List.getElem?_eq_getElem hi)) hd2, fun H5 s5 => ?_⟩
      exact hA rfl _ _ H5 rfl (sm2.trans' s5) (by rw [Has])
    · intro p acc H' hp sm hacc hl
      have e : ((List.range ds.length).filter fun _ => true).map (fun _ => Dt.bl true) = (List.replicate ds.length true).map Dt.bl := by rw [filter_true, map_same, List.map_replicate]
      rw [e] at hl
      have hb := bools_hasL hl
      rw [hb] at hacc
      refine ⟨p, _, rfl, SqL.of hacc, ?_⟩
      exact qtrue (by simp) (q H' sm)
  | tup ds =>
    rw [Has] at hx hy
    obtain ⟨a, xs, rfl, s1, l1⟩ := hx
    obtain ⟨b, ys, rfl, s2, l2⟩ := hy
    have m1 := l1.len
    have m2 := l2.len
    have hg2 : ds.length ≤ 100000 ∧ gdL ds = true := by simpa [gd] using hg
    have hd2 : dptL ds < n := by rw [dpt] at hd; omega
    refine ⟨_, rfl, _, rfl, iteBF (by simp) ?_⟩
    refine ⟨_, rfl, _, _, .tup, [.dct], rfl, .tup s2, .inl ⟨_, rfl, rfl⟩, _, rfl, iteBF (by decide) ?_⟩
    refine ⟨_, rfl, _, _, .tup, [.lst], rfl, .tup s2, .inl ⟨_, rfl, rfl⟩, _, rfl, iteBF (by decide) ?_⟩
    refine ⟨_, rfl, _, _, .tup, [.tup], rfl, .tup s2, .inl ⟨_, rfl, rfl⟩, _, rfl, iteBT (by decide) ?_⟩
    refine ⟨_, rfl, _, _, .tup, [.lst], rfl, .tup s1, .inl ⟨_, rfl, rfl⟩, _, rfl, _, _, .tup, [.lst], rfl, .tup s2, .inl ⟨_, rfl, rfl⟩, rfl, _, rfl, iteBF (by simp) ?_⟩
    refine ⟨_, rfl, _, _, .tup, [.tup], rfl, .tup s1, .inl ⟨_, rfl, rfl⟩, _, rfl, _, _, .tup, [.tup], rfl, .tup s2, .inl ⟨_, rfl, rfl⟩, rfl, _, rfl, iteBF (by simp) ?_⟩
    refine ⟨_, rfl, a, _, rfl, .inr s1, _, rfl, b, _, rfl, .inr s2, rfl, _, rfl, iteBF (by rw [← m1, ← m2]; simp) ?_⟩
    refine ⟨_, rfl, _, rfl, true, a, true, b, rfl, ⟨xs, s1⟩, ⟨ys, s2⟩, comp_gen (K := K) (fun σ' => σ'.length = 2) ds.length (by have := hg2.1; show ds.length < 2 ^ 24; omega) (fun _ => .bl true) (fun _ => true) (fun _ => by simp [tupO]) rfl
      (itz_go (b1 := true) (b2 := true) s1 s2 m1.symm m2.symm) (itz_stop (b1 := true) (b2 := true) s1 s2 m1.symm m2.symm) ?_ ?_⟩
    · intro s3 H3' fp i σ' H' hi ok sm x H2 hy Nx Ap _ hA
      obtain ⟨p', u, v, rfl, sm2, hp', hu, hv⟩ := itz_yld (b1 := true) (b2 := true) s1 s2 sm hy
      obtain ⟨z0, z1, rfl⟩ : ∃ z0 z1, σ' = [z0, z1] := by
        match σ', ok with
        | [z0, z1], _ => exact ⟨z0, z1, rfl⟩
      have sm3 := sm.trans' sm2
      refine ⟨p', _, rfl, SqT.of hp', rfl, u, [v], rfl, v, [], rfl, rfl, ?_⟩
      refine yes_then ?_
      refine ⟨_, rfl, _, rfl, u, v, ds[i], rfl, Has.same sm3 (l1.get (List.getElem?_eq_getElem hi) hu), Has.same sm3 (l2.get (List.getElem?_eq_getElem hi) hv), gdL_get hg2.2 (List.getElem?_eq_getElem hi), Nat.lt_of_le_of_lt (dptL_get (List.getElem?_eq_getElem hi)) hd2, fun H5 s5 => ?_⟩
      exact hA rfl _ _ H5 rfl (sm2.trans' s5) (by rw [Has])
    · intro p acc H' hp sm hacc hl
      have e : ((List.range ds.length).filter fun _ => true).map (fun _ => Dt.bl true) = (List.replicate ds.length true).map Dt.bl := by rw [filter_true, map_same, List.map_replicate]
      rw [e] at hl
      have hb := bools_hasL hl
      rw [hb] at hacc
      refine ⟨p, _, rfl, SqL.of hacc, ?_⟩
      exact qtrue (by simp) (q H' sm)
theorem same_none {f : Addr} {fd : FuncData} : FnOk P w K mg base CX0 0 f fd ["_law_found", "_law_due"] (spSame K 0) := by
  have no : ∀ vs H Q E, ¬ spSame K 0 vs H Q E := fun vs H Q E h => by
    obtain ⟨x, y, d, _, _, _, _, h, _⟩ := h
    omega
  exact ⟨fun vs H Q E h => absurd h (no vs H Q E), fun A outer s H args us vs Q E _ _ _ _ h => absurd h (no vs H Q E)⟩
theorem cal_same (D : Dfn K mg "_law_same" s_same ["_law_found", "_law_due"]) (T : Txt mg) : ∀ n, Cal P w K mg base n "_law_same" ["_law_found", "_law_due"] (spSame K n)
  | 0 => D.cal fun _ _ _ => same_none
  | n + 1 => D.cal fun _ _ F => ok_same F T (cal_same D T n)
end
end Mp

namespace Mp
open PySem L2
/-! ### corners and octos -/
/-- the values stand for these points (each a list or a tuple of two ints) -/
def Pts (K : PySem.W.Frag) (H : Hp) (ps : List (Int × Int)) (xs : List V) : Prop := xs.length = ps.length ∧ ∀ (i : Nat) (p : Int × Int) (v : V), ps[i]? = some p → xs[i]? = some v → ∃ (b : Bool) (a : Addr), v = V.ref a ∧ SqG b K H a [.int p.1, .int p.2]
theorem Pts.same {K : PySem.W.Frag} {H H' : Hp} {ps : List (Int × Int)} {xs : List V} (g : Same H H') (h : Pts K H ps xs) : Pts K H' ps xs := ⟨h.1, fun i p v e1 e2 => by
  obtain ⟨b, a, e, hs⟩ := h.2 i p v e1 e2
  exact ⟨b, a, e, SqG.same g hs⟩⟩
theorem Pts.at {K : PySem.W.Frag} {H : Hp} {ps : List (Int × Int)} {xs : List V} (h : Pts K H ps xs) {i : Nat} {v : V} (hv : xs[i]? = some v) : ∃ b a, v = .ref a ∧ SqG b K H a [.int (ps.getD i (0, 0)).1, .int (ps.getD i (0, 0)).2] := by
  have hi : i < ps.length := by rw [← h.1]; exact (List.getElem?_eq_some_iff.mp hv).1
  have e : ps.getD i (0, 0) = ps[i] := by simp [List.getD_eq_getElem?_getD, hi]
  rw [e]
  exact h.2 i ps[i] v (List.getElem?_eq_getElem hi) hv
/-- the eight bounds -/
def OctoOf (ps : List (Int × Int)) (o : List Int) : Prop := ∃ a b c d e f g h, o = [a, b, c, d, e, f, g, h] ∧ IsMin (ps.map fun p => p.1) a ∧ IsMax (ps.map fun p => p.1) b ∧ IsMin (ps.map fun p => p.2) c ∧ IsMax (ps.map fun p => p.2) d ∧
  IsMin (ps.map fun p => p.1 + p.2) e ∧ IsMax (ps.map fun p => p.1 + p.2) f ∧ IsMin (ps.map fun p => p.1 - p.2) g ∧ IsMax (ps.map fun p => p.1 - p.2) h
theorem OctoOf.one {ps : List (Int × Int)} {o o' : List Int} (h : OctoOf ps o) (k : OctoOf ps o') : o = o' := by
  obtain ⟨a, b, c, d, e, f, g, i, rfl, h1, h2, h3, h4, h5, h6, h7, h8⟩ := h
  obtain ⟨a', b', c', d', e', f', g', i', rfl, k1, k2, k3, k4, k5, k6, k7, k8⟩ := k
  rw [h1.one k1, h2.one k2, h3.one k3, h4.one k4, h5.one k5, h6.one k6, h7.one k7, h8.one k8]
def spOctoOf (K : PySem.W.Frag) : Sp := fun vs H Q _ => ∃ (b : Bool) (a : Addr) (xs : List V) (ps : List (Int × Int)), vs = [.ref a] ∧ SqG b K H a xs ∧ Pts K H ps xs ∧ ps ≠ [] ∧ ps.length ≤ 100000 ∧
  ∀ (o : List Int) (p : Addr) (H' : Hp), OctoOf ps o → Same H H' → SqT K H' p (o.map V.int) → Q (.ref p) H'
section
variable {P : Program} {w : World} {K : PySem.W.Frag} {mg : Str → Option Value} {base : Heap}
theorem scOc : FnScope ["corners", "bounds", "numbers"] ["corners"] (defScope s_octo_of) := ⟨rfl, rfl, rfl, by decide +kernel, rfl, by decide +kernel, by decide +kernel⟩
set_option maxHeartbeats 2000000 in
theorem ok_octo_of {f : Addr} {fd : FuncData} (F : Fun K "octo_of" "octo_of" s_octo_of f fd) (T : Txt mg) : FnOk P w K mg base CX0 1 f fd ["corners"] (spOctoOf K) := by
  refine F.ok scOc (fun vs H Q E h => ?_) (fun cdv A outer s H vs Q E hr h => ?_)
  · obtain ⟨b, a, xs, ps, rfl, _⟩ := h
    rfl
  obtain ⟨b, a, xs, ps, rfl, h1, hP, hne, hz, q⟩ := h
  have sc := @scOc
  have nd1 : (["corner"] : List Str).Nodup := by decide +kernel
  refine ⟨_, (pss_cons (ps_set (i := 1) sc.nd rfl (Or.inl rfl) (pe_lstA pa_nil))
    (pss_cons (ps_for PassesOwn.never rfl (pi_tup (pe_tupA (pa_cons (pe_compF sc ["corner"] [none] nd1 (by decide +kernel) (pi_seq (pv 0)) (fun _ _ _ => (pg_name (i := 0) nd1 rfl (Or.inl rfl) (Or.inr rfl))) (fun _ _ _ => pts_nil) (fun _ _ _ => (pe_ix ix_G (pv 0) pe_int (fun _ _ => rfl)))) (pa_cons (pe_compF sc ["corner"] [none] nd1 (by decide +kernel) (pi_seq (pv 0)) (fun _ _ _ => (pg_name (i := 0) nd1 rfl (Or.inl rfl) (Or.inr rfl))) (fun _ _ _ => pts_nil) (fun _ _ _ => (pe_ix ix_G (pv 0) pe_int (fun _ _ => rfl)))) (pa_cons (pe_compF sc ["corner"] [none] nd1 (by decide +kernel) (pi_seq (pv 0)) (fun _ _ _ => (pg_name (i := 0) nd1 rfl (Or.inl rfl) (Or.inr rfl))) (fun _ _ _ => pts_nil) (fun _ _ _ => (pe_op op_add (pe_ix ix_G (pv 0) pe_int (fun _ _ => rfl)) (pe_ix ix_G (pv 0) pe_int (fun _ _ => rfl))))) (pa_cons (pe_compF sc ["corner"] [none] nd1 (by decide +kernel) (pi_seq (pv 0)) (fun _ _ _ => (pg_name (i := 0) nd1 rfl (Or.inl rfl) (Or.inr rfl))) (fun _ _ _ => pts_nil) (fun _ _ _ => (pe_op op_sub (pe_ix ix_G (pv 0) pe_int (fun _ _ => rfl)) (pe_ix ix_G (pv 0) pe_int (fun _ _ => rfl))))) pa_nil)))))) (pg_name (i := 2) sc.nd rfl (Or.inl rfl)) (pss_cons (ps_expr (pe_bm PySem.F.plainAttrs_list PySem.F.slot_list_append PySem.F.type_list_append mt_append (pv 1) (pa_cons (pe_callB (call_minL rfl) (by rfl) T.min (by decide +kernel) (pa_cons (pv 2) pa_nil)) pa_nil)))
    (pss_one (ps_expr (pe_bm PySem.F.plainAttrs_list PySem.F.slot_list_append PySem.F.type_list_append mt_append (pv 1) (pa_cons (pe_callB (call_maxL rfl) (by rfl) T.max (by decide +kernel) (pa_cons (pv 2) pa_nil)) pa_nil))))))
    (pss_one (ps_ret (pe_callTy call_tupleG (by rfl) T.tuple (by decide +kernel) (pa_cons (pv 1) pa_nil)))))), ?_⟩
  have hn : xs.length < sizeLine := by rw [hP.1]; show ps.length < 2 ^ 24; omega
  have ml : ∀ f : Int × Int → Int, (List.range xs.length).map (fun i => f (ps.getD i (0, 0))) = ps.map f := fun f => by rw [hP.1]; exact map_getD ps (0, 0) f
  refine ⟨(by show 0 ≤ sizeLine; decide), fun pb Hb hpb gb eb => ?_⟩
  -- the four rows of numbers
  refine ⟨_, rfl, b, a, xs, rfl, SqG.same gb h1, comp_seq (K := K) (frs := []) (SqG.same gb h1) hn (fun i => .int (ps.getD i (0, 0)).1) (fun i => by simp [tupO]) ?_ ?_⟩
  · intro s3 H3' fp i v H' hv sm Ap hA
    obtain ⟨b', a', rfl, hs⟩ := (Pts.same (gb.trans' sm) hP).at hv
    exact ⟨_, rfl, b', a', _, _, _, rfl, rfl, hs, atI_nat (j := 0) rfl, hA _ H' .rfl' (by rw [Has])⟩
  intro p1 acc1 H1 hp1 g1 e1 l1
  have ea := hasL_intsOf l1
  rw [ml fun p => p.1] at ea
  subst ea
  have G1 := gb.trans' g1
  refine ⟨_, rfl, b, a, xs, rfl, SqG.same G1 h1, comp_seq (K := K) (frs := []) (SqG.same G1 h1) hn (fun i => .int (ps.getD i (0, 0)).2) (fun i => by simp [tupO]) ?_ ?_⟩
  · intro s3 H3' fp i v H' hv sm Ap hA
    obtain ⟨b', a', rfl, hs⟩ := (Pts.same (G1.trans' sm) hP).at hv
    exact ⟨_, rfl, b', a', _, _, _, rfl, rfl, hs, atI_nat (j := 1) rfl, hA _ H' .rfl' (by rw [Has])⟩
  intro p2 acc2 H2 hp2 g2 e2 l2
  have ea := hasL_intsOf l2
  rw [ml fun p => p.2] at ea
  subst ea
  have G2 := G1.trans' g2
  refine ⟨_, rfl, b, a, xs, rfl, SqG.same G2 h1, comp_seq (K := K) (frs := []) (SqG.same G2 h1) hn (fun i => .int ((ps.getD i (0, 0)).1 + (ps.getD i (0, 0)).2)) (fun i => by simp [tupO]) ?_ ?_⟩
  · intro s3 H3' fp i v H' hv sm Ap hA
    obtain ⟨b', a', rfl, hs⟩ := (Pts.same (G2.trans' sm) hP).at hv
    exact ⟨_, rfl, b', a', _, _, _, rfl, rfl, hs, atI_nat (j := 0) rfl, _, rfl, b', a', _, _, _, rfl, rfl, hs, atI_nat (j := 1) rfl, _, _, rfl, rfl, hA _ H' .rfl' (by rw [Has])⟩
  intro p3 acc3 H3 hp3 g3 e3 l3
  have ea := hasL_intsOf l3
  rw [ml fun p => p.1 + p.2] at ea
  subst ea
  have G3 := G2.trans' g3
  refine ⟨_, rfl, b, a, xs, rfl, SqG.same G3 h1, comp_seq (K := K) (frs := []) (SqG.same G3 h1) hn (fun i => .int ((ps.getD i (0, 0)).1 - (ps.getD i (0, 0)).2)) (fun i => by simp [tupO]) ?_ ?_⟩
  · intro s3 H3' fp i v H' hv sm Ap hA
    obtain ⟨b', a', rfl, hs⟩ := (Pts.same (G3.trans' sm) hP).at hv
    exact ⟨_, rfl, b', a', _, _, _, rfl, rfl, hs, atI_nat (j := 0) rfl, _, rfl, b', a', _, _, _, rfl, rfl, hs, atI_nat (j := 1) rfl, _, _, rfl, rfl, hA _ H' .rfl' (by rw [Has])⟩
  intro p4 acc4 H4 hp4 g4 e4 l4
  have ea := hasL_intsOf l4
  rw [ml fun p => p.1 - p.2] at ea
  subst ea
  refine ⟨(by show 4 ≤ sizeLine; decide), fun p5 H5 hp5 g5 e5 => ?_⟩
  have eb5 : H5 pb = some (.lst []) := g5 _ _ (g4 _ _ (g3 _ _ (g2 _ _ (g1 _ _ eb))))
  have f1 := g5 _ _ (g4 _ _ (g3 _ _ (g2 _ _ e1)))
  have f2 := g5 _ _ (g4 _ _ (g3 _ _ e2))
  have f3 := g5 _ _ (g4 _ _ e3)
  have f4 := g5 _ _ e4
  have nb : ∀ {p : Addr} {H : Hp} {o : HO}, H pb = some o → H p = none → p ≠ pb := fun h h' => (ne_of_none h h').symm
  have n1 : p1 ≠ pb := nb eb hp1
  have n2 : p2 ≠ pb := nb (g1 _ _ eb) hp2
  have n3 : p3 ≠ pb := nb (g2 _ _ (g1 _ _ eb)) hp3
  have n4 : p4 ≠ pb := nb (g3 _ _ (g2 _ _ (g1 _ _ eb))) hp4
  have n5 : p5 ≠ pb := nb (g4 _ _ (g3 _ _ (g2 _ _ (g1 _ _ eb)))) hp5
  have G5 := G3.trans' (g4.trans' g5)
  -- the loop over them
  have rows : ∀ f : Int × Int → Int, ps.map f ≠ [] := fun f e => hne (List.map_eq_nil_iff.mp e)
  let R : Nat → List Int := fun i => ([ps.map fun p => p.1, ps.map fun p => p.2, ps.map fun p => p.1 + p.2, ps.map fun p => p.1 - p.2] : List (List Int)).getD i []
  refine ⟨p5, rfl, ⟨_, SqT.of e5⟩, for_tup (K := K) (a := p5) (xs := [.ref p1, .ref p2, .ref p3, .ref p4]) (fun i σ H6 => ∃ (v2 : Option V) (os : List Int), σ = [some (.ref a), some (.ref pb), v2] ∧ H6 = upd H5 pb (.lst (os.map V.int)) ∧ os.length = 2 * i ∧ ∀ j, j < i → IsMin (R j) (os.getD (2 * j) 0) ∧ IsMax (R j) (os.getD (2 * j + 1) 0))
    ⟨none, [], rfl, by funext z; unfold upd; split <;> simp_all, rfl, fun j hj => absurd hj (Nat.not_lt_zero _)⟩ (fun i σ H6 _ ⟨_, _, _, e6, _⟩ => by rw [e6]; exact SqT.of (by rw [upd_ne n5]; exact e5)) ?_ ?_⟩
  · rintro i v σ H6 hv ⟨v2, os, rfl, rfl, hlen, hall⟩
    have hi : i < 4 := (List.getElem?_eq_some_iff.mp hv).1
    obtain ⟨pk, rfl, hk, nk⟩ : ∃ pk, v = V.ref pk ∧ H5 pk = some (.lst ((R i).map V.int)) ∧ pk ≠ pb := by
      match i, hi, hv with
      | 0, _, e => cases e; exact ⟨p1, rfl, f1, n1⟩
      | 1, _, e => cases e; exact ⟨p2, rfl, f2, n2⟩
      | 2, _, e => cases e; exact ⟨p3, rfl, f3, n3⟩
      | 3, _, e => cases e; exact ⟨p4, rfl, f4, n4⟩
    have hR : R i ≠ [] := by
      match i, hi with
      | 0, _ => exact rows _
      | 1, _ => exact rows _
      | 2, _ => exact rows _
      | 3, _ => exact rows _
    have s6 : SqL K (upd H5 pb (.lst (os.map V.int))) pk ((R i).map V.int) := SqL.of (by rw [upd_ne nk]; exact hk)
    have s7 : SqL K (upd H5 pb (.lst (os.map V.int))) pb (os.map V.int) := SqL.of upd_same
    refine ⟨_, rfl, .inl ⟨rfl, _, s7⟩, _, rfl, pk, R i, rfl, s6, hR, fun r1 m1 => ?_⟩
    refine ⟨pb, _, _, rfl, rfl, upd_same, (by rw [List.length_map, hlen]; show 2 * i < 2 ^ 24; omega), ?_⟩
    rw [upd_upd]
    have s8 : SqL K (upd H5 pb (.lst (os.map V.int ++ [V.int r1]))) pk ((R i).map V.int) := SqL.of (by rw [upd_ne nk]; exact hk)
    refine ⟨_, rfl, .inl ⟨rfl, _, SqL.of upd_same⟩, _, rfl, pk, R i, rfl, s8, hR, fun r2 m2 => ?_⟩
    refine ⟨pb, _, _, rfl, rfl, upd_same, (by rw [List.length_append, List.length_map, hlen]; show 2 * i + 1 < 2 ^ 24; omega), ?_⟩
    rw [upd_upd]
    refine ⟨_, os ++ [r1, r2], rfl, by rw [List.map_append, List.append_assoc]; rfl, by rw [List.length_append, hlen]; show 2 * i + 2 = 2 * (i + 1); omega, fun j hj => ?_⟩
    by_cases e : j < i
    · have k1 : 2 * j < os.length := by omega
      have k2 : 2 * j + 1 < os.length := by omega
      have ap : ∀ k, k < os.length → (os ++ [r1, r2]).getD k 0 = os.getD k 0 := fun k hk => by rw [List.getD_eq_getElem?_getD, List.getD_eq_getElem?_getD, List.getElem?_append_left hk]
      rw [ap _ k1, ap _ k2]
      exact hall j e
    · have e' : j = i := by omega
      subst e'
      have z1 : (os ++ [r1, r2]).getD (2 * j) 0 = r1 := by rw [← hlen]; simp [List.getD_eq_getElem?_getD]
      have z2 : (os ++ [r1, r2]).getD (2 * j + 1) 0 = r2 := by rw [← hlen]; simp [List.getD_eq_getElem?_getD]
      rw [z1, z2]
      exact ⟨m1, m2⟩
  · rintro σ H6 ⟨v2, os, rfl, rfl, hlen, hall⟩
    have S5 : Same H (upd H5 pb (.lst (os.map V.int))) := fun z o e => by
      rw [upd_ne (ne_of_none e hpb)]
      exact G5 z o e
    refine ⟨_, rfl, false, pb, _, rfl, SqL.of upd_same, fun q' H7 g7 s7 => q os q' H7 ?_ (S5.trans' g7) s7⟩
    have l8 : os.length = 8 := hlen
    match os, l8 with
    | [a1, a2, a3, a4, a5, a6, a7, a8], _ => exact ⟨a1, a2, a3, a4, a5, a6, a7, a8, rfl, (hall 0 (by show 0 < 4; decide)).1, (hall 0 (by show 0 < 4; decide)).2, (hall 1 (by show 1 < 4; decide)).1, (hall 1 (by show 1 < 4; decide)).2, (hall 2 (by show 2 < 4; decide)).1, (hall 2 (by show 2 < 4; decide)).2, (hall 3 (by show 3 < 4; decide)).1, (hall 3 (by show 3 < 4; decide)).2⟩
end
end Mp

namespace Mp
open PySem L2
def addL (o o' : List Int) : List Int := List.zipWith (· + ·) o o'
def spAdded (K : PySem.W.Frag) : Sp := fun vs H Q _ => ∃ (b b' : Bool) (a a' : Addr) (o o' : List Int), vs = [.ref a, .ref a'] ∧ SqG b K H a (o.map V.int) ∧ SqG b' K H a' (o'.map V.int) ∧ o'.length = o.length ∧ o.length ≤ 100000 ∧
  ∀ (p : Addr) (H' : Hp), Same H H' → SqT K H' p ((addL o o').map V.int) → Q (.ref p) H'
section
variable {P : Program} {w : World} {K : PySem.W.Frag} {mg : Str → Option Value} {base : Heap}
theorem scAd : FnScope ["one", "other"] ["one", "other"] (defScope s_added) := ⟨rfl, rfl, rfl, by decide +kernel, rfl, by decide +kernel, by decide +kernel⟩
theorem ok_added {f : Addr} {fd : FuncData} (F : Fun K "added" "added" s_added f fd) (T : Txt mg) : FnOk P w K mg base CX0 1 f fd ["one", "other"] (spAdded K) := by
  refine F.ok scAd (fun vs H Q E h => ?_) (fun cdv A outer s H vs Q E hr h => ?_)
  · obtain ⟨b, b', a, a', o, o', rfl, _⟩ := h
    rfl
  obtain ⟨b, b', a, a', o, o', rfl, h1, h2, hl, hz, q⟩ := h
  have sc := @scAd
  have nd1 : (["bound", "more"] : List Str).Nodup := by decide +kernel
  refine ⟨_, (pss_one (ps_ret (pe_callTy call_tupleG (by rfl) T.tuple (by decide +kernel) (pa_cons (pe_compF sc ["bound", "more"] [none, none] nd1 (by decide +kernel) (pi_zip (by rfl) T.zip (pa_cons (pv 0) (pa_cons (pv 1) pa_nil))) (fun _ _ _ => (pg_tup rfl (pgs_cons (pg_name (i := 0) nd1 rfl (Or.inl rfl) (Or.inr rfl)) (pgs_cons (pg_name (i := 1) nd1 rfl (Or.inl rfl) (Or.inr rfl)) pgs_nil)))) (fun _ _ _ => pts_nil) (fun _ _ _ => (pe_op op_add (pv 0) (pv 1)))) pa_nil)))), ?_⟩
  refine ⟨_, rfl, _, rfl, b, a, b', a', rfl, ⟨_, h1⟩, ⟨_, h2⟩, ?_⟩
  have hn : (o.map V.int).length < sizeLine := by rw [List.length_map]; show o.length < 2 ^ 24; omega
  refine comp_zip (K := K) (frs := []) h1 h2 (by rw [List.length_map, List.length_map]; exact hl) hn (fun i => .int (o.getD i 0 + o'.getD i 0)) (fun i => by simp [tupO]) ?_ ?_
  · intro s3 H3' fp i x y H' hx hy sm Ap hA
    have gx : ∀ {l : List Int} {v : V}, (l.map V.int)[i]? = some v → v = .int (l.getD i 0) := fun {l v} e => by
      have hi : i < l.length := by have := (List.getElem?_eq_some_iff.mp e).1; simpa using this
      rw [List.getElem?_map, List.getElem?_eq_getElem hi] at e
      have e' : V.int l[i] = v := by simpa using e
      rw [← e']
      simp [List.getD_eq_getElem?_getD, hi]
    have ex := gx hx
    have ey := gx hy
    subst ex ey
    refine ⟨_, rfl, _, rfl, _, _, rfl, rfl, ?_⟩
    exact hA _ H' .rfl' (by rw [Has])
  · intro p acc H' hp sm hacc hl'
    have ea := hasL_intsOf hl'
    subst ea
    refine ⟨false, p, _, rfl, SqL.of hacc, fun q' H2 g2 s2 => q q' H2 (sm.trans' g2) ?_⟩
    have e : (List.range (o.map V.int).length).map (fun i => o.getD i 0 + o'.getD i 0) = addL o o' := by
      rw [List.length_map]
      apply List.ext_getElem
      · simp [addL, hl]
      · intro i h1 h2
        have k1 : i < o.length := by simpa using h1
        have k2 : i < o'.length := by omega
        simp [addL, List.getD_eq_getElem?_getD, k1, k2]
    rw [← e]
    exact s2
def spMoved (K : PySem.W.Frag) : Sp := fun vs H Q _ => ∃ (b b' : Bool) (a a' : Addr) (o : List Int) (x y : Int), vs = [.ref a, .ref a'] ∧ SqG b K H a (o.map V.int) ∧ SqG b' K H a' [.int x, .int y] ∧ o.length = 8 ∧
  ∀ (p : Addr) (H' : Hp), Same H H' → SqT K H' p ((addL o [x, x, y, y, x + y, x + y, x - y, x - y]).map V.int) → Q (.ref p) H'
theorem octo_point {x y : Int} {o : List Int} (h : OctoOf [(x, y)] o) : o = [x, x, y, y, x + y, x + y, x - y, x - y] := by
  obtain ⟨a, b, c, d, e, f, g, i, rfl, h1, h2, h3, h4, h5, h6, h7, h8⟩ := h
  have m : ∀ {z r : Int}, r ∈ [z] → r = z := fun h => List.mem_singleton.mp h
  rw [m h1.1, m h2.1, m h3.1, m h4.1, m h5.1, m h6.1, m h7.1, m h8.1]
theorem scMo : FnScope ["octo", "corner"] ["octo", "corner"] (defScope s_moved) := ⟨rfl, rfl, rfl, by decide +kernel, rfl, by decide +kernel, by decide +kernel⟩
theorem ok_moved {f : Addr} {fd : FuncData} (F : Fun K "moved" "moved" s_moved f fd) (G_added : Cal P w K mg base 1 "added" ["one", "other"] (spAdded K)) (G_octo_of : Cal P w K mg base 1 "octo_of" ["corners"] (spOctoOf K)) : FnOk P w K mg base CX0 2 f fd ["octo", "corner"] (spMoved K) := by
  refine F.ok scMo (fun vs H Q E h => ?_) (fun cdv A outer s H vs Q E hr h => ?_)
  · obtain ⟨b, b', a, a', o, x, y, rfl, _⟩ := h
    rfl
  obtain ⟨b, b', a, a', o, x, y, rfl, h1, h2, hl, q⟩ := h
  have sc := @scMo
  refine ⟨_, (pss_one (ps_ret (pe_def G_added hr (by rfl) (pa_cons (pv 0) (pa_cons (pe_def G_octo_of hr (by rfl) (pa_cons (pe_lstA (pa_cons (pv 1) pa_nil)) pa_nil)) pa_nil))))), ?_⟩
  refine ⟨_, rfl, _, rfl, (by show 1 ≤ sizeLine; decide), fun p1 H1 hp1 g1 e1 => ?_⟩
  refine ⟨false, p1, _, [(x, y)], rfl, SqL.of e1, ⟨rfl, fun i p v e1 e2 => ?_⟩, by simp, (by show 1 ≤ 100000; decide), fun o2 p2 H2 ho2 g2 s2 => ?_⟩
  · match i, e1, e2 with
    | 0, e1, e2 =>
      cases e1
      cases e2
      exact ⟨b', a', rfl, SqG.same g1 h2⟩
  have eo := octo_point ho2
  subst eo
  have G2 := g1.trans' g2
  exact ⟨b, true, a, p2, o, _, rfl, SqG.same G2 h1, s2, by rw [hl]; rfl, by rw [hl]; decide, fun p3 H3 g3 s3 => q p3 H3 (G2.trans' g3) s3⟩
end
end Mp

namespace Mp
open PySem L2
/-! ### kinds -/
def isNum : Dt → Bool
  | .int _ => true
  | _ => false
def tyD : Dt → Ty
  | .int _ => .int
  | .bl _ => .bl
  | .str _ => .str
  | .non => .non
  | .lst _ => .lst
  | .tup _ => .tup
theorem has_tyD {K : PySem.W.Frag} {H : Hp} {d : Dt} {x : V} (h : Has K H d x) : TyG K H x (tyD d) := by
  obtain ⟨t, h1, h2⟩ := has_ty h
  have e : t = tyD d := by cases d <;> exact h2
  rw [← e]
  exact h1
def spNum (K : PySem.W.Frag) : Sp := fun vs H Q _ => ∃ (x : V) (d : Dt), vs = [x] ∧ Has K H d x ∧ Q (.bl (isNum d)) H
def spRow (K : PySem.W.Frag) : Sp := fun vs H Q _ => ∃ (x : V) (t : Ty), vs = [x] ∧ TyG K H x t ∧ ∀ H', Same H H' → Q (.bl ([Ty.lst, Ty.tup].any (isA t))) H'
/-- a thing that is no row; a row with its data -/
def NoRow (K : PySem.W.Frag) (H : Hp) (x : V) : Prop := ∃ t, TyG K H x t ∧ t ≠ .lst ∧ t ≠ .tup
def Row (K : PySem.W.Frag) (H : Hp) (x : V) (ds : List Dt) : Prop := ∃ (b : Bool) (a : Addr) (xs : List V), x = .ref a ∧ SqG b K H a xs ∧ HasL K H ds xs ∧ ds.length ≤ 100000
theorem Row.ty {K : PySem.W.Frag} {H : Hp} {x : V} {ds : List Dt} (h : Row K H x ds) : ∃ t, TyG K H x t ∧ (t = .lst ∨ t = .tup) := by
  obtain ⟨b, a, xs, rfl, hs, _⟩ := h
  cases b with
  | true => exact ⟨_, .tup hs, .inr rfl⟩
  | false => exact ⟨_, .lst hs, .inl rfl⟩
theorem Row.same {K : PySem.W.Frag} {H H' : Hp} {x : V} {ds : List Dt} (g : Same H H') (h : Row K H x ds) : Row K H' x ds := by
  obtain ⟨b, a, xs, e, hs, hl, hz⟩ := h
  exact ⟨b, a, xs, e, SqG.same g hs, HasL.same g hl, hz⟩
theorem TyG.same {K : PySem.W.Frag} {H H' : Hp} {x : V} {t : Ty} (g : Same H H') (h : TyG K H x t) : TyG K H' x t := by
  cases h with
  | non => exact .non
  | bl b => exact .bl b
  | int i => exact .int i
  | str i => exact .str i
  | lst h => exact .lst (SqL.same g h)
  | tup h => exact .tup (SqT.same g h)
  | dct h => exact .dct (g _ _ h)
def spNums (K : PySem.W.Frag) : Sp := fun vs H Q _ => ∃ (x : V) (m : Int), vs = [x, .int m] ∧ ((NoRow K H x ∧ ∀ H', Same H H' → Q (.bl false) H') ∨ ∃ ds, Row K H x ds ∧ ∀ H', Same H H' → Q (.bl (decide ((ds.length : Int) = m) && ds.all isNum)) H')
section
variable {P : Program} {w : World} {K : PySem.W.Frag} {mg : Str → Option Value} {base : Heap}
theorem scNu : FnScope ["thing"] ["thing"] (defScope s_is_number) := ⟨rfl, rfl, rfl, by decide +kernel, rfl, by decide +kernel, by decide +kernel⟩
theorem ok_num {f : Addr} {fd : FuncData} (F : Fun K "is_number" "is_number" s_is_number f fd) (T : Txt mg) : FnOk P w K mg base CX0 1 f fd ["thing"] (spNum K) := by
  refine F.ok scNu (fun vs H Q E h => ?_) (fun cdv A outer s H vs Q E hr h => ?_)
  · obtain ⟨x, d, rfl, _⟩ := h
    rfl
  obtain ⟨x, d, rfl, hx, q⟩ := h
  have sc := @scNu
  refine ⟨_, (pss_one (ps_ret (pe_and (pe_callB call_isinst (by rfl) T.isinstance (by decide +kernel) (pa_cons (pv 0) (pa_cons (pe_bltn (v := .ty (Ty.nm .int)) (by rfl) T.int (by decide +kernel) rfl) pa_nil))) (pe_one (pe_not (pe_callB call_isinst (by rfl) T.isinstance (by decide +kernel) (pa_cons (pv 0) (pa_cons (pe_bltn (v := .ty (Ty.nm .bl)) (by rfl) T.bool (by decide +kernel) rfl) pa_nil)))))))), ?_⟩
  have ty := has_tyD hx
  refine ⟨_, rfl, _, _, tyD d, [.int], rfl, ty, .inl ⟨_, rfl, rfl⟩, _, rfl, ?_⟩
  have done : ∀ b : Bool, b = isNum d → Q (.bl b) H := fun b e => by rw [e]; exact q
  cases d with
  | int i => exact iteBT (by simp [tyD, isA]) ⟨_, rfl, _, _, .int, [.bl], rfl, ty, .inl ⟨_, rfl, rfl⟩, _, rfl, done _ (by simp [isA, isNum])⟩
  | bl i => exact iteBT (by simp [tyD, isA]) ⟨_, rfl, _, _, .bl, [.bl], rfl, ty, .inl ⟨_, rfl, rfl⟩, _, rfl, done _ (by simp [isA, isNum])⟩
  | str i => exact iteBF (by simp [tyD, isA]) (done _ rfl)
  | non => exact iteBF (by simp [tyD, isA]) (done _ rfl)
  | lst i => exact iteBF (by simp [tyD, isA]) (done _ rfl)
  | tup i => exact iteBF (by simp [tyD, isA]) (done _ rfl)
theorem scRo : FnScope ["thing"] ["thing"] (defScope s_is_row) := ⟨rfl, rfl, rfl, by decide +kernel, rfl, by decide +kernel, by decide +kernel⟩
theorem ok_row {f : Addr} {fd : FuncData} (F : Fun K "is_row" "is_row" s_is_row f fd) (T : Txt mg) : FnOk P w K mg base CX0 1 f fd ["thing"] (spRow K) := by
  refine F.ok scRo (fun vs H Q E h => ?_) (fun cdv A outer s H vs Q E hr h => ?_)
  · obtain ⟨x, d, rfl, _⟩ := h
    rfl
  obtain ⟨x, t, rfl, hx, q⟩ := h
  have sc := @scRo
  refine ⟨_, (pss_one (ps_ret (pe_callB call_isinst (by rfl) T.isinstance (by decide +kernel) (pa_cons (pv 0) (pa_cons (pe_tupA (pa_cons (pe_bltn (v := .ty (Ty.nm .lst)) (by rfl) T.list (by decide +kernel) rfl) (pa_cons (pe_bltn (v := .ty (Ty.nm .tup)) (by rfl) T.tuple (by decide +kernel) rfl) pa_nil))) pa_nil))))), ?_⟩
  refine ⟨_, rfl, (by show 2 ≤ sizeLine; decide), fun p H1 hp g e => ?_⟩
  exact ⟨_, _, t, [.lst, .tup], rfl, TyG.same g hx, .inr ⟨p, rfl, e⟩, q H1 g⟩
theorem scAr : FnScope ["thing", "many"] ["thing", "many"] (defScope s_are_numbers) := ⟨rfl, rfl, rfl, by decide +kernel, rfl, by decide +kernel, by decide +kernel⟩
theorem ok_nums {f : Addr} {fd : FuncData} (F : Fun K "are_numbers" "are_numbers" s_are_numbers f fd) (T : Txt mg) (G_is_row : Cal P w K mg base 1 "is_row" ["thing"] (spRow K)) (G_is_number : Cal P w K mg base 1 "is_number" ["thing"] (spNum K)) :
    FnOk P w K mg base CX0 2 f fd ["thing", "many"] (spNums K) := by
  refine F.ok scAr (fun vs H Q E h => ?_) (fun cdv A outer s H vs Q E hr h => ?_)
  · obtain ⟨x, m, rfl, _⟩ := h
    rfl
  obtain ⟨x, m, rfl, h⟩ := h
  have sc := @scAr
  have nd1 : (["part"] : List Str).Nodup := by decide +kernel
  refine ⟨_, (pss_one (ps_ret (pe_and (pe_def G_is_row hr (by rfl) (pa_cons (pv 0) pa_nil)) (pe_and (pe_cmpR op_eq (pe_callB call_lenA (by rfl) T.len (by decide +kernel) (pa_cons (pv 0) pa_nil)) (pv 1) (nomark _)) (pe_one (pe_callB (call_all rfl) (by rfl) T.all (by decide +kernel) (pa_cons (pe_compF sc ["part"] [none] nd1 (by decide +kernel) (pi_seq (pv 0)) (fun _ _ _ => (pg_name (i := 0) nd1 rfl (Or.inl rfl) (Or.inr rfl))) (fun _ _ _ => pts_nil) (fun _ _ _ => (pe_def G_is_number hr (by rfl) (pa_cons (pv 0) pa_nil)))) pa_nil))))))), ?_⟩
  rcases h with ⟨⟨t, ty, n1, n2⟩, q⟩ | ⟨ds, hR, q⟩
  · refine ⟨_, rfl, x, t, rfl, ty, fun H1 g1 => ⟨_, rfl, iteBF ?_ (q H1 g1)⟩⟩
    cases t <;> simp_all [isA]
  · obtain ⟨t, ty, ht⟩ := hR.ty
    obtain ⟨b, a, xs, rfl, hs, hl, hz⟩ := hR
    have ll := hl.len
    refine ⟨_, rfl, _, t, rfl, ty, fun H1 g1 => ⟨_, rfl, iteBT (by rcases ht with rfl | rfl <;> decide) ?_⟩⟩
    refine ⟨_, rfl, b, a, xs, rfl, SqG.same g1 hs, _, rfl, rfl, _, rfl, iteB (fun hm => ?_) (fun hm => ?_)⟩
    · have hm' : (ds.length : Int) = m := by
        have := of_decide_eq_true hm
        injection this with e
        rw [ll]; exact e
      refine ⟨_, rfl, b, a, xs, rfl, SqG.same g1 hs, comp_seq (K := K) (frs := []) (SqG.same g1 hs) (by rw [← ll]; show ds.length < 2 ^ 24; omega) (fun i => .bl (isNum (ds.getD i .non))) (fun i => by simp [tupO]) ?_ ?_⟩
      · intro s3 H3' fp i v H' hv sm Ap hA
        have hi : i < ds.length := by rw [ll]; exact (List.getElem?_eq_some_iff.mp hv).1
        have hd : Has K H' (ds.getD i .non) v := by
          have e : ds.getD i .non = ds[i] := by simp [List.getD_eq_getElem?_getD, hi]
          rw [e]
          exact Has.same (g1.trans' sm) (hl.get (List.getElem?_eq_getElem hi) hv)
        exact ⟨_, rfl, v, _, rfl, hd, hA _ H' .rfl' (by rw [Has])⟩
      · intro p acc H' hp sm hacc hl'
        have ea := hasL_boolsOf hl'
        rw [← ll, map_getD ds .non isNum] at ea
        rw [ea] at hacc
        refine ⟨p, _, rfl, SqL.of hacc, ?_⟩
        have e : (ds.map isNum).all id = (decide ((ds.length : Int) = m) && ds.all isNum) := by rw [decide_eq_true hm', List.all_map]; rfl
        rw [e]
        exact q H' (g1.trans' sm)
    · have hm' : decide ((ds.length : Int) = m) = false := by
        refine decide_eq_false fun e => ?_
        have : ¬ V.int (xs.length : Int) = V.int m := of_decide_eq_false hm
        exact this (by rw [← ll, e])
      have := q H1 g1
      rw [hm', Bool.false_and] at this
      exact this
end
end Mp


namespace Mp
open PySem L2
/-! ### quarters -/
def qD (q : Int × Int × Int) : Dt := .tup (di [q.1, q.2.1, q.2.2])
def inX (k : Nat) : Int := ([3, 2, 1, 2] : List Int).getD k 0
def inY (k : Nat) : Int := ([2, 3, 2, 1] : List Int).getD k 0
/-- the inner point of a quarter lies in the bounds -/
def HoldP (o : List Int) (x y : Int) (k : Nat) : Prop := (4 * o.getD 0 0 < 4 * x + inX k ∧ 4 * x + inX k < 4 * o.getD 1 0) ∧ (4 * o.getD 2 0 < 4 * y + inY k ∧ 4 * y + inY k < 4 * o.getD 3 0) ∧
  (4 * o.getD 4 0 < 4 * x + inX k + (4 * y + inY k) ∧ 4 * x + inX k + (4 * y + inY k) < 4 * o.getD 5 0) ∧ (4 * o.getD 6 0 < 4 * x + inX k - (4 * y + inY k) ∧ 4 * x + inX k - (4 * y + inY k) < 4 * o.getD 7 0)
instance (o : List Int) (x y : Int) (k : Nat) : Decidable (HoldP o x y k) := by unfold HoldP; infer_instance
def iv (lo hi : Int) : List Int := (List.range (hi - lo).toNat).map fun i : Nat => lo + (i : Int)
theorem mem_iv {lo hi x : Int} : x ∈ iv lo hi ↔ lo ≤ x ∧ x < hi := by
  unfold iv
  rw [List.mem_map]
  constructor
  · rintro ⟨i, hi', rfl⟩
    have := List.mem_range.mp hi'
    omega
  · intro h
    exact ⟨(x - lo).toNat, List.mem_range.mpr (by omega), by omega⟩
def cellQ (o : List Int) (x y : Int) : List (Int × Int × Int) := ((List.range 4).filter fun k => decide (HoldP o x y k)).map fun k : Nat => (x, y, (k : Int))
def colQ (o : List Int) (x : Int) (ys : List Int) : List (Int × Int × Int) := ys.flatMap fun y => cellQ o x y
def quarts (o : List Int) : List (Int × Int × Int) := (iv (o.getD 0 0) (o.getD 1 0)).flatMap fun x => colQ o x (iv (o.getD 2 0) (o.getD 3 0))
theorem cellQ_len (o : List Int) (x y : Int) : (cellQ o x y).length ≤ 4 := by
  unfold cellQ
  rw [List.length_map]
  exact Nat.le_trans (List.length_filter_le _ _) (by simp)
theorem four {k : Nat} (h : k < 4) : k = 0 ∨ k = 1 ∨ k = 2 ∨ k = 3 := by omega
theorem cellQ_nil {o : List Int} {x y : Int} (h : ∀ k, k < 4 → ¬ HoldP o x y k) : cellQ o x y = [] := by
  unfold cellQ
  rw [List.map_eq_nil_iff, List.filter_eq_nil_iff]
  intro k hk
  rw [decide_eq_true_iff]
  exact h k (List.mem_range.mp hk)
/-- a flat octo has none -/
def Flat (o : List Int) : Prop := o.getD 0 0 = o.getD 1 0 ∨ o.getD 2 0 = o.getD 3 0 ∨ o.getD 4 0 = o.getD 5 0 ∨ o.getD 6 0 = o.getD 7 0
instance (o : List Int) : Decidable (Flat o) := by unfold Flat; infer_instance
theorem hold_flat {o : List Int} (h : Flat o) {x y : Int} {k : Nat} (hk : k < 4) : ¬ HoldP o x y k := by
  intro z
  unfold HoldP at z
  unfold Flat at h
  rcases four hk with rfl | rfl | rfl | rfl <;> simp only [inX, inY, List.getD_cons_zero, List.getD_cons_succ] at z <;> omega
theorem quarts_flat {o : List Int} (h : Flat o) : quarts o = [] := by
  unfold quarts colQ
  rw [List.flatMap_eq_nil_iff]
  intro x _
  rw [List.flatMap_eq_nil_iff]
  intro y _
  exact cellQ_nil fun k hk => hold_flat h hk
/-- an interval of which a part alone counts -/
theorem iv_split {a b c : Int} (h1 : a ≤ b) (h2 : b ≤ c) : iv a c = iv a b ++ iv b c := by
  unfold iv
  have e : (c - a).toNat = (b - a).toNat + (c - b).toNat := by omega
  rw [e, List.range_add, List.map_append, List.map_map]
  congr 1
  refine List.map_congr_left fun i _ => ?_
  simp only [Function.comp]
  omega
theorem iv_none {a b : Int} (h : b ≤ a) : iv a b = [] := by
  unfold iv
  rw [show (b - a).toNat = 0 by omega]
  rfl
theorem flat_part {α : Type} {f : Int → List α} {a b c d : Int} (h1 : a ≤ c) (h2 : d ≤ b) (hf : ∀ y, a ≤ y → y < b → ¬ (c ≤ y ∧ y < d) → f y = []) : (iv a b).flatMap f = (iv c d).flatMap f := by
  have none : ∀ {u v : Int}, (∀ y, u ≤ y → y < v → f y = []) → (iv u v).flatMap f = [] := fun {u v} h => by
    rw [List.flatMap_eq_nil_iff]
    intro y hy
    have := mem_iv.mp hy
    exact h y this.1 this.2
  by_cases hcd : c ≤ d
  · rw [iv_split (a := a) (b := c) (c := b) h1 (by omega), iv_split (a := c) (b := d) (c := b) hcd h2, List.flatMap_append, List.flatMap_append, none (u := a) (v := c) (fun y k1 k2 => hf y k1 (by omega) (by omega)), none (u := d) (v := b) (fun y k1 k2 => hf y (by omega) k2 (by omega)), List.nil_append, List.append_nil]
  · rw [iv_none (a := c) (b := d) (by omega), List.flatMap_nil]
    exact none fun y k1 k2 => hf y k1 k2 (by omega)
theorem hold_low {o : List Int} {x y lo hi : Int} {k : Nat} (hk : k < 4) (h : HoldP o x y k) (l4 : lo = o.getD 2 0 ∨ lo = o.getD 4 0 - x - 1 ∨ lo = x - o.getD 7 0) (u4 : hi = o.getD 3 0 ∨ hi = o.getD 5 0 - x ∨ hi = x + 1 - o.getD 6 0) : lo ≤ y ∧ y < hi := by
  unfold HoldP at h
  rcases four hk with rfl | rfl | rfl | rfl <;> simp only [inX, inY, List.getD_cons_zero, List.getD_cons_succ] at h <;> omega
theorem col_part {o : List Int} {x lo hi : Int} (l1 : o.getD 2 0 ≤ lo) (l4 : lo = o.getD 2 0 ∨ lo = o.getD 4 0 - x - 1 ∨ lo = x - o.getD 7 0) (u1 : hi ≤ o.getD 3 0) (u4 : hi = o.getD 3 0 ∨ hi = o.getD 5 0 - x ∨ hi = x + 1 - o.getD 6 0) : colQ o x (iv lo hi) = colQ o x (iv (o.getD 2 0) (o.getD 3 0)) := by
  unfold colQ
  exact (flat_part l1 u1 fun y _ _ hn => cellQ_nil fun k hk z => hn (hold_low hk z l4 u4)).symm
theorem iv_len (a b : Int) : (iv a b).length = (b - a).toNat := by
  unfold iv
  rw [List.length_map, List.length_range]
theorem flat_len {α : Type} {f : Int → List α} {n : Nat} (h : ∀ y, (f y).length ≤ n) : ∀ ys : List Int, (ys.flatMap f).length ≤ ys.length * n
  | [] => by simp
  | y :: r => by
    rw [List.flatMap_cons, List.length_append, List.length_cons, Nat.succ_mul]
    have h1 := flat_len h r
    have h2 := h y
    omega
theorem take_iv {α : Type} (f : Int → List α) (lo hi : Int) {i : Nat} (h : i < (hi - lo).toNat) : ((iv lo hi).take (i + 1)).flatMap f = ((iv lo hi).take i).flatMap f ++ f (lo + i) := by
  have e : (iv lo hi)[i]? = some (lo + i) := by
    unfold iv
    rw [List.getElem?_map, List.getElem?_range h]
    rfl
  rw [List.take_add_one, e, List.flatMap_append]
  congr 1
  show List.flatMap f [lo + ↑i] = _
  rw [List.flatMap_cons, List.flatMap_nil, List.append_nil]
theorem take_iv_all (lo hi : Int) : (iv lo hi).take (hi - lo).toNat = iv lo hi := by
  have := iv_len lo hi
  rw [← this]
  exact List.take_length
structure InnerAt (K : PySem.W.Frag) (mg : Str → Option Value) (a : Addr) : Prop where
  m_INNER : mg "INNER" = some (.ref a)
  it : ∀ H : Hp, ∃ ps : List V, SqT K H a ps ∧ ∀ i : Nat, i < 4 → ∃ p, ps[i]? = some (.ref p) ∧ SqT K H p [.int (inX i), .int (inY i)]
def spInner (K : PySem.W.Frag) : Sp := fun vs H Q _ => ∃ (b : Bool) (c : Addr) (x y : Int) (k : Nat), vs = [.ref c] ∧ SqG b K H c [.int x, .int y, .int k] ∧ k < 4 ∧ New (.tup [.int (4 * x + inX k), .int (4 * y + inY k)]) H Q
def spHolds (K : PySem.W.Frag) : Sp := fun vs H Q _ => ∃ (b b' : Bool) (a c : Addr) (o : List Int) (x y : Int) (k : Nat), vs = [.ref a, .ref c] ∧ SqG b K H a (o.map V.int) ∧ o.length = 8 ∧ SqG b' K H c [.int x, .int y, .int k] ∧ k < 4 ∧ ∀ H', Same H H' → Q (.bl (decide (HoldP o x y k))) H'
def spFlat (K : PySem.W.Frag) : Sp := fun vs H Q _ => ∃ (b : Bool) (a : Addr) (o : List Int), vs = [.ref a] ∧ SqG b K H a (o.map V.int) ∧ o.length = 8 ∧ Q (.bl (decide (Flat o))) H
/-- numbers that a range takes, and not too many quarters -/
def Fits (o : List Int) : Prop := o.length = 8 ∧ (o.getD 1 0 - o.getD 0 0 ≤ 1000 ∧ o.getD 3 0 - o.getD 2 0 ≤ 1000) ∧ ∀ i, i < 8 → -(2 ^ 40) < o.getD i 0 ∧ o.getD i 0 < 2 ^ 40
theorem eight : ∀ {o : List Int}, o.length = 8 → ∃ w e s n a b c d, o = [w, e, s, n, a, b, c, d]
  | [w, e, s, n, a, b, c, d], _ => ⟨w, e, s, n, a, b, c, d, rfl⟩
section
variable {P : Program} {w : World} {K : PySem.W.Frag} {mg : Str → Option Value} {base : Heap}
theorem scIp : FnScope ["quarter", "inner"] ["quarter"] (defScope s_inner_point) := ⟨rfl, rfl, rfl, by decide +kernel, rfl, by decide +kernel, by decide +kernel⟩
set_option maxHeartbeats 1000000 in
theorem ok_inner {f a_INNER : Addr} {fd : FuncData} (F : Fun K "inner_point" "inner_point" s_inner_point f fd) (T : InnerAt K mg a_INNER) : FnOk P w K mg base CX0 1 f fd ["quarter"] (spInner K) := by
  refine F.ok scIp (fun vs H Q E h => ?_) (fun cdv A outer s H vs Q E hr h => ?_)
  · obtain ⟨b, c, x, y, k, rfl, _⟩ := h
    rfl
  obtain ⟨b, c, x, y, k, rfl, hc, hk, q⟩ := h
  have sc := @scIp
  refine ⟨_, (@pss_cons _ _ _ _ _ (@ps_set _ _ 1 _ _ _ _ sc.nd rfl (Or.inl rfl) (@pe_ix _ _ _ _ _ _ _ ix_tup (pe_glob (v := .ref a_INNER) (by rfl) T.m_INNER rfl) (@pe_ix _ _ _ _ _ _ _ ix_G (pv 0) pe_int (fun _ _ => rfl)) (fun _ _ => rfl)) (by rfl) (Or.inl rfl)) (@pss_one _ _ _ (@ps_ret _ _ _ _ (@pe_tupA _ _ _ _ _ (@pa_cons _ _ _ _ _ (@pe_op _ _ _ _ _ _ _ _ op_add (@pe_op _ _ _ _ _ _ _ _ op_mul pe_int (@pe_ix _ _ _ _ _ _ _ ix_G (pv 0) pe_int (fun _ _ => rfl))) (@pe_ix _ _ _ _ _ _ _ ix_tup (pv 1) pe_int (fun _ _ => rfl))) (@pa_cons _ _ _ _ _ (@pe_op _ _ _ _ _ _ _ _ op_add (@pe_op _ _ _ _ _ _ _ _ op_mul pe_int (@pe_ix _ _ _ _ _ _ _ ix_G (pv 0) pe_int (fun _ _ => rfl))) (@pe_ix _ _ _ _ _ _ _ ix_tup (pv 1) pe_int (fun _ _ => rfl))) pa_nil (by rfl)) (by rfl)))))), ?_⟩
  obtain ⟨ps, hS, hi⟩ := T.it H
  obtain ⟨p, hp, hq⟩ := hi k hk
  refine ⟨_, rfl, b, c, _, _, _, rfl, rfl, hc, atI_nat (j := 2) rfl, a_INNER, ps, _, _, rfl, rfl, hS, atI_nat hp, ?_⟩
  refine ⟨_, rfl, b, c, _, _, _, rfl, rfl, hc, atI_nat (j := 0) rfl, _, _, rfl, rfl, .inl (by decide), _, rfl, p, _, _, _, rfl, rfl, hq, atI_nat (j := 0) rfl, _, _, rfl, rfl, ?_⟩
  refine ⟨_, rfl, b, c, _, _, _, rfl, rfl, hc, atI_nat (j := 1) rfl, _, _, rfl, rfl, .inl (by decide), _, rfl, p, _, _, _, rfl, rfl, hq, atI_nat (j := 1) rfl, _, _, rfl, rfl, ?_⟩
  exact ⟨(by show 2 ≤ sizeLine; decide), q⟩
theorem scHo : FnScope ["octo", "quarter", "point", "x", "y"] ["octo", "quarter"] (defScope s_holds) := ⟨rfl, rfl, rfl, by decide +kernel, rfl, by decide +kernel, by decide +kernel⟩
set_option maxHeartbeats 2000000 in
theorem ok_holds {f : Addr} {fd : FuncData} (F : Fun K "holds" "holds" s_holds f fd) (G_inner_point : Cal P w K mg base 1 "inner_point" ["quarter"] (spInner K)) : FnOk P w K mg base CX0 2 f fd ["octo", "quarter"] (spHolds K) := by
  refine F.ok scHo (fun vs H Q E h => ?_) (fun cdv A outer s H vs Q E hr h => ?_)
  · obtain ⟨b, b', a, c, o, x, y, k, rfl, _⟩ := h
    rfl
  obtain ⟨b, b', a, c, o, x, y, k, rfl, ha, h8, hc, hk, q⟩ := h
  have sc := @scHo
  refine ⟨_, (@pss_cons _ _ _ _ _ (@ps_set _ _ 2 _ _ _ _ sc.nd rfl (Or.inl rfl) (@pe_def _ _ _ _ _ _ _ _ _ _ _ G_inner_point hr (by rfl) (@pa_cons _ _ _ _ _ (pv 1) pa_nil (by rfl)) (by omega) (by decide) (by rfl) (by rfl)) (by rfl) (Or.inl rfl)) (@pss_cons _ _ _ _ _ (@ps_set _ _ 3 _ _ _ _ sc.nd rfl (Or.inl rfl) (@pe_ix _ _ _ _ _ _ _ ix_tup (pv 2) pe_int (fun _ _ => rfl)) (by rfl) (Or.inl rfl)) (@pss_cons _ _ _ _ _ (@ps_set _ _ 4 _ _ _ _ sc.nd rfl (Or.inl rfl) (@pe_ix _ _ _ _ _ _ _ ix_tup (pv 2) pe_int (fun _ _ => rfl)) (by rfl) (Or.inl rfl)) (@pss_one _ _ _ (@ps_ret _ _ _ _ (pe_and (pe_chain op_lt op_lt (@pe_op _ _ _ _ _ _ _ _ op_mul pe_int (@pe_ix _ _ _ _ _ _ _ ix_G (pv 0) pe_int (fun _ _ => rfl))) (pv 3) (@pe_op _ _ _ _ _ _ _ _ op_mul pe_int (@pe_ix _ _ _ _ _ _ _ ix_G (pv 0) pe_int (fun _ _ => rfl)))) (pe_and (pe_chain op_lt op_lt (@pe_op _ _ _ _ _ _ _ _ op_mul pe_int (@pe_ix _ _ _ _ _ _ _ ix_G (pv 0) pe_int (fun _ _ => rfl))) (pv 4) (@pe_op _ _ _ _ _ _ _ _ op_mul pe_int (@pe_ix _ _ _ _ _ _ _ ix_G (pv 0) pe_int (fun _ _ => rfl)))) (pe_and (pe_chain op_lt op_lt (@pe_op _ _ _ _ _ _ _ _ op_mul pe_int (@pe_ix _ _ _ _ _ _ _ ix_G (pv 0) pe_int (fun _ _ => rfl))) (@pe_op _ _ _ _ _ _ _ _ op_add (pv 3) (pv 4)) (@pe_op _ _ _ _ _ _ _ _ op_mul pe_int (@pe_ix _ _ _ _ _ _ _ ix_G (pv 0) pe_int (fun _ _ => rfl)))) (pe_one (pe_chain op_lt op_lt (@pe_op _ _ _ _ _ _ _ _ op_mul pe_int (@pe_ix _ _ _ _ _ _ _ ix_G (pv 0) pe_int (fun _ _ => rfl))) (@pe_op _ _ _ _ _ _ _ _ op_sub (pv 3) (pv 4)) (@pe_op _ _ _ _ _ _ _ _ op_mul pe_int (@pe_ix _ _ _ _ _ _ _ ix_G (pv 0) pe_int (fun _ _ => rfl))))))))))))), ?_⟩
  obtain ⟨o0, o1, o2, o3, o4, o5, o6, o7, rfl⟩ := eight h8
  refine ⟨_, rfl, b', c, x, y, k, rfl, hc, hk, fun p H1 hp g1 e1 => ?_⟩
  have hp1 : SqT K H1 p _ := SqT.of e1
  have h1 := SqG.same g1 ha
  have done : ∀ r : Bool, (r = true ↔ HoldP [o0, o1, o2, o3, o4, o5, o6, o7] x y k) → Q (.bl r) H1 := fun r hr => by
    have e : r = decide (HoldP [o0, o1, o2, o3, o4, o5, o6, o7] x y k) := by rw [Bool.eq_iff_iff, decide_eq_true_iff]; exact hr
    rw [e]
    exact q H1 g1
  refine ⟨_, rfl, p, _, _, _, rfl, rfl, hp1, atI_nat (j := 0) rfl, _, rfl, p, _, _, _, rfl, rfl, hp1, atI_nat (j := 1) rfl, ?_⟩
  have no : ∀ {r : Prop} {b : Bool}, b = false → (HoldP [o0, o1, o2, o3, o4, o5, o6, o7] x y k → b = true) → Q (.bl false) H1 := fun {r b} e k' => done false ⟨(fun z => nomatch z), fun z => by rw [k' z] at e; cases e⟩
  refine ⟨_, rfl, b, a, _, _, _, rfl, rfl, h1, atI_nat (j := 0) rfl, _, _, rfl, rfl, .inl (by decide), _, rfl, _, _, rfl, rfl, _, rfl, iteB (fun k1 => ?_) (fun k1 => ⟨_, rfl, iteBF rfl (no (r := True) k1 fun z => decide_eq_true z.1.1)⟩)⟩
  refine ⟨_, rfl, b, a, _, _, _, rfl, rfl, h1, atI_nat (j := 1) rfl, _, _, rfl, rfl, .inl (by decide), _, _, rfl, rfl, _, rfl, iteB (fun k2 => ?_) (fun k2 => no (r := True) k2 fun z => decide_eq_true z.1.2)⟩
  refine ⟨_, rfl, b, a, _, _, _, rfl, rfl, h1, atI_nat (j := 2) rfl, _, _, rfl, rfl, .inl (by decide), _, rfl, _, _, rfl, rfl, _, rfl, iteB (fun k3 => ?_) (fun k3 => ⟨_, rfl, iteBF rfl (no (r := True) k3 fun z => decide_eq_true z.2.1.1)⟩)⟩
  refine ⟨_, rfl, b, a, _, _, _, rfl, rfl, h1, atI_nat (j := 3) rfl, _, _, rfl, rfl, .inl (by decide), _, _, rfl, rfl, _, rfl, iteB (fun k4 => ?_) (fun k4 => no (r := True) k4 fun z => decide_eq_true z.2.1.2)⟩
  refine ⟨_, rfl, b, a, _, _, _, rfl, rfl, h1, atI_nat (j := 4) rfl, _, _, rfl, rfl, .inl (by decide), _, rfl, _, rfl, _, _, rfl, rfl, _, _, rfl, rfl, _, rfl, iteB (fun k5 => ?_) (fun k5 => ⟨_, rfl, iteBF rfl (no (r := True) k5 fun z => decide_eq_true z.2.2.1.1)⟩)⟩
  refine ⟨_, rfl, b, a, _, _, _, rfl, rfl, h1, atI_nat (j := 5) rfl, _, _, rfl, rfl, .inl (by decide), _, _, rfl, rfl, _, rfl, iteB (fun k6 => ?_) (fun k6 => no (r := True) k6 fun z => decide_eq_true z.2.2.1.2)⟩
  refine ⟨_, rfl, b, a, _, _, _, rfl, rfl, h1, atI_nat (j := 6) rfl, _, _, rfl, rfl, .inl (by decide), _, rfl, _, rfl, _, _, rfl, rfl, _, _, rfl, rfl, _, rfl, iteB (fun k7 => ?_) (fun k7 => no (r := True) k7 fun z => decide_eq_true z.2.2.2.1)⟩
  refine ⟨_, rfl, b, a, _, _, _, rfl, rfl, h1, atI_nat (j := 7) rfl, _, _, rfl, rfl, .inl (by decide), _, _, rfl, rfl, done _ ⟨fun k8 => ?_, fun z => decide_eq_true z.2.2.2.2⟩⟩
  exact ⟨⟨of_decide_eq_true k1, of_decide_eq_true k2⟩, ⟨of_decide_eq_true k3, of_decide_eq_true k4⟩, ⟨of_decide_eq_true k5, of_decide_eq_true k6⟩, of_decide_eq_true k7, of_decide_eq_true k8⟩
end
end Mp
namespace L2
open PySem PySem.Spec PyProof.Rows
theorem filter_succN (keep : Nat → Bool) (i : Nat) : (List.range (i + 1)).filter keep = (List.range i).filter keep ++ (if keep i = true then [i] else []) := by
  rw [List.range_succ, List.filter_append]
  cases h : keep i <;> simp [h]
theorem paired_append {α β : Type} {F : α → β → Prop} : ∀ {l l' : List α} {m m' : List β}, Paired F l m → Paired F l' m' → Paired F (l ++ l') (m ++ m')
  | _, _, _, _, .nil, r => r
  | _, _, _, _, .cons h t, r => .cons h (paired_append t r)
theorem paired_mapL {α β γ : Type} {F : γ → β → Prop} (f : α → γ) : ∀ {l : List α} {m : List β}, Paired (fun a b => F (f a) b) l m → Paired F (l.map f) m
  | _, _, .nil => .nil
  | _, _, .cons h t => .cons h (paired_mapL f t)
/-- a comprehension with a promise of one's own for each item, one that outlives what is written to lists -/
theorem comp_genP {J : It} {fr : List (Option Nat)} {g : Shared → Hp → List Addr → TG} {tt : Shared → Hp → List Addr → TT} {te : Shared → Hp → List Addr → TE} {σ : St} {H1 : Hp} {Q : VK} (Ok : St → Prop) (n : Nat) (hn : n < sizeLine) (Pd : Nat → Hp → V → Prop) (hP : ∀ i H H' v, TSame H H' → Pd i H v → Pd i H' v) (keep : Nat → Bool) (h0 : Ok (compSt fr σ))
    (hgo : ∀ i H', Same H1 H' → i < n → J.go i H') (hst : ∀ H', Same H1 H' → J.stop n H')
    (turn : ∀ s3 H3' fp i σ' H', i < n → Ok σ' → Same H1 H' → ∀ x H2, J.yld i H' x H2 → ∀ (Nx : St → Hp → Prop) (Ap : St → V → Hp → Prop), (keep i = false → ∀ σ2 H4, Ok σ2 → Same H' H4 → Nx σ2 H4) → (keep i = true → ∀ σ2 v H5, Ok σ2 → Same H' H5 → Pd i H5 v → Ap σ2 v H5) →
      g s3 H3' fp x σ' H2 fun σ2 H3 => tt s3 H3' fp σ2 H3 fun b H4 => if b = true then te s3 H3' fp σ2 H4 (fun v H5 => Ap σ2 v H5) else Nx σ2 H4)
    (fin : ∀ p acc H', H1 p = none → Same H1 H' → H' p = some (.lst acc) → Paired (fun i v => Pd i H' v) ((List.range n).filter keep) acc → Q (.ref p) H') :
    CompB J fr g tt te σ H1 Q := by
  intro p hp s3 H3' fp
  refine ⟨fun i m σ' H' => m = n - i ∧ i ≤ n ∧ Ok σ' ∧ Same H1 H' ∧ ∃ acc, H' p = some (.lst acc) ∧ Paired (fun i v => Pd i H' v) ((List.range i).filter keep) acc, ⟨n, by simp, Nat.zero_le _, h0, same_new hp _, [], upd_same, .nil⟩, ?_⟩
  rintro i m σ' H' ⟨rfl, hi, ok, sm, acc, hacc, hl⟩
  by_cases hlt : i < n
  · refine .inr ⟨hgo i H' sm hlt, fun x H2 hy => ?_⟩
    refine turn s3 H3' fp i σ' H' hlt ok sm x H2 hy (fun σ2 H4 => ∃ m', m' < n - i ∧ m' = n - (i + 1) ∧ i + 1 ≤ n ∧ Ok σ2 ∧ Same H1 H4 ∧ ∃ acc, H4 p = some (.lst acc) ∧ Paired (fun i v => Pd i H4 v) ((List.range (i + 1)).filter keep) acc) (fun σ2 v H5 => _) (fun hk σ2 H4 ok2 s4 => ?_) (fun hk σ2 v H5 ok2 s5 hv => ?_)
    · refine ⟨n - (i + 1), by omega, rfl, hlt, ok2, sm.trans' s4, acc, s4 _ _ hacc, ?_⟩
      rw [filter_succN, hk]
      simpa using Paired.mapP hl fun a b z => hP _ _ _ _ (Same.t s4) z
    · have h5 : H5 p = some (.lst acc) := s5 _ _ hacc
      have len : acc.length ≤ i := by
        have e := Paired.length hl
        have e2 : ((List.range i).filter keep).length ≤ i := Nat.le_trans (List.length_filter_le _ _) (by rw [List.length_range]; exact Nat.le_refl _)
        omega
      have ts : TSame H5 (upd H5 p (.lst (acc ++ [v]))) := tsame_upd h5 rfl
      refine ⟨acc, h5, by omega, n - (i + 1), by omega, rfl, hlt, ok2, fun b o e => ?_, acc ++ [v], upd_same, ?_⟩
      · rw [upd_ne (ne_of_none e hp)]
        exact s5 b o (sm b o e)
      · rw [filter_succN, hk]
        exact paired_append (Paired.mapP hl fun a b z => hP _ _ _ _ ((Same.t s5).trans ts) z) (.cons (hP _ _ _ _ ts hv) .nil)
  · have e : i = n := by omega
    subst e
    exact .inl ⟨hst H' sm, fin p acc H' hp sm hacc hl⟩
end L2
namespace Mp
open PySem L2
/-- quarters, each in a tuple of its own that is known -/
def QL (H : Hp) (qs : List (Int × Int × Int)) (acc : List V) : Prop := Paired (fun (q : Int × Int × Int) v => ∃ a, v = V.ref a ∧ H a = some (.tup [.int q.1, .int q.2.1, .int q.2.2])) qs acc
theorem QL.t {H H' : Hp} {qs : List (Int × Int × Int)} {acc : List V} (h : QL H qs acc) (t : TSame H H') : QL H' qs acc := Paired.mapP h fun a b ⟨z, e, k⟩ => ⟨z, e, t _ _ k rfl⟩
theorem QL.len {H : Hp} {qs : List (Int × Int × Int)} {acc : List V} (h : QL H qs acc) : qs.length = acc.length := Paired.length h
theorem QL.hasL {K : PySem.W.Frag} {H : Hp} : ∀ {qs : List (Int × Int × Int)} {acc : List V}, QL H qs acc → HasL K H (qs.map qD) acc
  | _, _, .nil => hasL_nil
  | _, _, .cons ⟨a, e, k⟩ t => by
    subst e
    exact hasL_cons (has_tupI (ns := [_, _, _]) (SqT.of k)) (QL.hasL t)
def spQuartersQ (K : PySem.W.Frag) : Sp := fun vs H Q _ => ∃ (b : Bool) (a : Addr) (o : List Int), vs = [.ref a] ∧ SqG b K H a (o.map V.int) ∧ Fits o ∧ ∀ (p : Addr) (acc : List V) (H' : Hp), H p = none → Same H H' → H' p = some (.lst acc) → QL H' (quarts o) acc → Q (.ref p) H'
end Mp
namespace Mp
open PySem L2
section
variable {P : Program} {w : World} {K : PySem.W.Frag} {mg : Str → Option Value} {base : Heap}
theorem scFl : FnScope ["octo"] ["octo"] (defScope s_is_flat) := ⟨rfl, rfl, rfl, by decide +kernel, rfl, by decide +kernel, by decide +kernel⟩
set_option maxHeartbeats 1000000 in
theorem ok_flat {f : Addr} {fd : FuncData} (F : Fun K "is_flat" "is_flat" s_is_flat f fd) : FnOk P w K mg base CX0 1 f fd ["octo"] (spFlat K) := by
  refine F.ok scFl (fun vs H Q E h => ?_) (fun cdv A outer s H vs Q E hr h => ?_)
  · obtain ⟨b, a, o, rfl, _⟩ := h
    rfl
  obtain ⟨b, a, o, rfl, ha, h8, q⟩ := h
  have sc := @scFl
  refine ⟨_, (@pss_one _ _ _ (@ps_ret _ _ _ _ (pe_or (pe_cmpR op_eq (@pe_ix _ _ _ _ _ _ _ ix_G (pv 0) pe_int (fun _ _ => rfl)) (@pe_ix _ _ _ _ _ _ _ ix_G (pv 0) pe_int (fun _ _ => rfl)) (nomark _)) (pe_or (pe_cmpR op_eq (@pe_ix _ _ _ _ _ _ _ ix_G (pv 0) pe_int (fun _ _ => rfl)) (@pe_ix _ _ _ _ _ _ _ ix_G (pv 0) pe_int (fun _ _ => rfl)) (nomark _)) (pe_or (pe_cmpR op_eq (@pe_ix _ _ _ _ _ _ _ ix_G (pv 0) pe_int (fun _ _ => rfl)) (@pe_ix _ _ _ _ _ _ _ ix_G (pv 0) pe_int (fun _ _ => rfl)) (nomark _)) (pe_one (pe_cmpR op_eq (@pe_ix _ _ _ _ _ _ _ ix_G (pv 0) pe_int (fun _ _ => rfl)) (@pe_ix _ _ _ _ _ _ _ ix_G (pv 0) pe_int (fun _ _ => rfl)) (nomark _)))))))), ?_⟩
  obtain ⟨o0, o1, o2, o3, o4, o5, o6, o7, rfl⟩ := eight h8
  have yes : Flat [o0, o1, o2, o3, o4, o5, o6, o7] → Q (.bl true) H := fun z => by
    rw [decide_eq_true z] at q
    exact q
  have ye : ∀ {i j : Int}, decide (V.int i = V.int j) = true → i = j := fun {i j} h => by
    have := of_decide_eq_true h
    injection this
  have ne : ∀ {i j : Int}, decide (V.int i = V.int j) = false → ¬ i = j := fun {i j} h z => of_decide_eq_false h (by rw [z])
  refine ⟨_, rfl, b, a, _, _, _, rfl, rfl, ha, atI_nat (j := 0) rfl, _, rfl, b, a, _, _, _, rfl, rfl, ha, atI_nat (j := 1) rfl, rfl, _, rfl, iteB (fun k0 => yes (.inl (ye k0))) (fun k0 => ?_)⟩
  refine ⟨_, rfl, b, a, _, _, _, rfl, rfl, ha, atI_nat (j := 2) rfl, _, rfl, b, a, _, _, _, rfl, rfl, ha, atI_nat (j := 3) rfl, rfl, _, rfl, iteB (fun k1 => yes (.inr (.inl (ye k1)))) (fun k1 => ?_)⟩
  refine ⟨_, rfl, b, a, _, _, _, rfl, rfl, ha, atI_nat (j := 4) rfl, _, rfl, b, a, _, _, _, rfl, rfl, ha, atI_nat (j := 5) rfl, rfl, _, rfl, iteB (fun k2 => yes (.inr (.inr (.inl (ye k2))))) (fun k2 => ?_)⟩
  refine ⟨_, rfl, b, a, _, _, _, rfl, rfl, ha, atI_nat (j := 6) rfl, _, rfl, b, a, _, _, _, rfl, rfl, ha, atI_nat (j := 7) rfl, rfl, ?_⟩
  have e : decide (V.int o6 = V.int o7) = decide (Flat [o0, o1, o2, o3, o4, o5, o6, o7]) := by
    rw [Bool.eq_iff_iff, decide_eq_true_iff, decide_eq_true_iff]
    exact ⟨fun z => .inr (.inr (.inr (by injection z))), fun z => by
      rcases z with z | z | z | z
      · exact absurd z (ne k0)
      · exact absurd z (ne k1)
      · exact absurd z (ne k2)
      · exact congrArg V.int z⟩
  show Q (.bl (decide (V.int o6 = V.int o7))) H
  rw [e]
  exact q
theorem scQi : FnScope ["octo", "region", "x", "low", "high", "y"] ["octo"] (defScope s_quarters_in) := ⟨rfl, rfl, rfl, by decide +kernel, rfl, by decide +kernel, by decide +kernel⟩
set_option maxHeartbeats 4000000 in
theorem ok_quarters_in {f : Addr} {fd : FuncData} (F : Fun K "quarters_in" "quarters_in" s_quarters_in f fd) (T : Txt mg) (G_is_flat : Cal P w K mg base 1 "is_flat" ["octo"] (spFlat K)) (G_holds : Cal P w K mg base 2 "holds" ["octo", "quarter"] (spHolds K)) : FnOk P w K mg base CX0 3 f fd ["octo"] (spQuartersQ K) := by
  refine F.ok scQi (fun vs H Q E h => ?_) (fun cdv A outer s H vs Q E hr h => ?_)
  · obtain ⟨b, a, o, rfl, _⟩ := h
    rfl
  obtain ⟨b, a, o, rfl, ha, hF, q⟩ := h
  have sc := @scQi
  have nd1 : (["side", "octo", "x", "y"] : List Str).Nodup := by decide +kernel
  refine ⟨_, (@pss_cons _ _ _ _ _ (@ps_set _ _ 1 _ _ _ _ sc.nd rfl (Or.inl rfl) (@pe_lstA _ _ _ _ pa_nil) (by rfl) (Or.inl rfl)) (@pss_cons _ _ _ _ _ (@ps_if _ _ _ _ _ _ _ _ (pt_val (@pe_def _ _ _ _ _ _ _ _ _ _ _ G_is_flat hr (by rfl) (@pa_cons _ _ _ _ _ (pv 0) pa_nil (by rfl)) (by omega) (by decide) (by rfl) (by rfl))) (@pss_one _ _ _ (@ps_ret _ _ _ _ (pv 1))) pss_nil) (@pss_cons _ _ _ _ _ (@ps_for _ _ _ _ _ _ _ _ PassesOwn.never rfl (pi_range2 (by rfl) T.range (@pa_cons _ _ _ _ _ (@pe_ix _ _ _ _ _ _ _ ix_G (pv 0) pe_int (fun _ _ => rfl)) (@pa_cons _ _ _ _ _ (@pe_ix _ _ _ _ _ _ _ ix_G (pv 0) pe_int (fun _ _ => rfl)) pa_nil (by rfl)) (by rfl))) (pg_name (i := 2) sc.nd rfl (Or.inr rfl)) (@pss_cons _ _ _ _ _ (@ps_set _ _ 3 _ _ _ _ sc.nd rfl (Or.inl rfl) (@pe_callB _ _ _ _ _ _ _ _ _ (call_max3 rfl) (by rfl) T.max (by decide +kernel) (@pa_cons _ _ _ _ _ (@pe_ix _ _ _ _ _ _ _ ix_G (pv 0) pe_int (fun _ _ => rfl)) (@pa_cons _ _ _ _ _ (@pe_op _ _ _ _ _ _ _ _ op_sub (@pe_op _ _ _ _ _ _ _ _ op_sub (@pe_ix _ _ _ _ _ _ _ ix_G (pv 0) pe_int (fun _ _ => rfl)) (pv 2)) pe_int) (@pa_cons _ _ _ _ _ (@pe_op _ _ _ _ _ _ _ _ op_sub (pv 2) (@pe_ix _ _ _ _ _ _ _ ix_G (pv 0) pe_int (fun _ _ => rfl))) pa_nil (by rfl)) (by rfl)) (by rfl)) (by decide) (by decide) (by rfl) (by rfl)) (by rfl) (Or.inl rfl)) (@pss_cons _ _ _ _ _ (@ps_set _ _ 4 _ _ _ _ sc.nd rfl (Or.inl rfl) (@pe_callB _ _ _ _ _ _ _ _ _ (call_min3 rfl) (by rfl) T.min (by decide +kernel) (@pa_cons _ _ _ _ _ (@pe_ix _ _ _ _ _ _ _ ix_G (pv 0) pe_int (fun _ _ => rfl)) (@pa_cons _ _ _ _ _ (@pe_op _ _ _ _ _ _ _ _ op_sub (@pe_ix _ _ _ _ _ _ _ ix_G (pv 0) pe_int (fun _ _ => rfl)) (pv 2)) (@pa_cons _ _ _ _ _ (@pe_op _ _ _ _ _ _ _ _ op_sub (@pe_op _ _ _ _ _ _ _ _ op_add (pv 2) pe_int) (@pe_ix _ _ _ _ _ _ _ ix_G (pv 0) pe_int (fun _ _ => rfl))) pa_nil (by rfl)) (by rfl)) (by rfl)) (by decide) (by decide) (by rfl) (by rfl)) (by rfl) (Or.inl rfl)) (@pss_one _ _ _ (@ps_for _ _ _ _ _ _ _ _ PassesOwn.never rfl (pi_range2 (by rfl) T.range (@pa_cons _ _ _ _ _ (pv 3) (@pa_cons _ _ _ _ _ (pv 4) pa_nil (by rfl)) (by rfl))) (pg_name (i := 5) sc.nd rfl (Or.inr rfl)) (@pss_one _ _ _ (ps_expr (pe_bm PySem.F.plainAttrs_list PySem.F.slot_list_extend PySem.F.type_list_extend mt_extendA (pv 1) (@pa_cons _ _ _ _ _ (@pe_compF _ _ _ _ sc ["side", "octo", "x", "y"] [none, some 0, some 2, some 5] nd1 _ _ _ _ _ _ _ _ _ _ (by decide +kernel) (pi_range1 (by rfl) T.range (@pa_cons _ _ _ _ _ pe_int pa_nil (by rfl))) (fun _ _ _ => (pg_name (i := 0) nd1 rfl (Or.inl rfl) (Or.inr rfl))) (fun _ _ _ => (pts_one (pt_val (@pe_def _ _ _ _ _ _ _ _ _ _ _ G_holds hr (by rfl) (@pa_cons _ _ _ _ _ (pv 1) (@pa_cons _ _ _ _ _ (@pe_tupA _ _ _ _ _ (@pa_cons _ _ _ _ _ (pv 2) (@pa_cons _ _ _ _ _ (pv 3) (@pa_cons _ _ _ _ _ (pv 0) pa_nil (by rfl)) (by rfl)) (by rfl))) pa_nil (by rfl)) (by rfl)) (by omega) (by decide) (by rfl) (by rfl))))) (fun _ _ _ => (@pe_tupA _ _ _ _ _ (@pa_cons _ _ _ _ _ (pv 2) (@pa_cons _ _ _ _ _ (pv 3) (@pa_cons _ _ _ _ _ (pv 0) pa_nil (by rfl)) (by rfl)) (by rfl)))) (by rfl) (by rfl) (by rfl) (by intro _; rfl)) pa_nil (by rfl))))) (by intro _; rfl))))) (by intro _; rfl)) (@pss_one _ _ _ (@ps_ret _ _ _ _ (pv 1)))))), ?_⟩
  have h8 := hF.1
  obtain ⟨o0, o1, o2, o3, o4, o5, o6, o7, rfl⟩ := eight h8
  obtain ⟨o, eo⟩ : ∃ o, o = [o0, o1, o2, o3, o4, o5, o6, o7] := ⟨_, rfl⟩
  have b0 : -(2 ^ 40) < o0 ∧ o0 < 2 ^ 40 := hF.2.2 0 (by decide)
  have b1 : -(2 ^ 40) < o1 ∧ o1 < 2 ^ 40 := hF.2.2 1 (by decide)
  have b2 : -(2 ^ 40) < o2 ∧ o2 < 2 ^ 40 := hF.2.2 2 (by decide)
  have b3 : -(2 ^ 40) < o3 ∧ o3 < 2 ^ 40 := hF.2.2 3 (by decide)
  have b4 : -(2 ^ 40) < o4 ∧ o4 < 2 ^ 40 := hF.2.2 4 (by decide)
  have b5 : -(2 ^ 40) < o5 ∧ o5 < 2 ^ 40 := hF.2.2 5 (by decide)
  have b6 : -(2 ^ 40) < o6 ∧ o6 < 2 ^ 40 := hF.2.2 6 (by decide)
  have b7 : -(2 ^ 40) < o7 ∧ o7 < 2 ^ 40 := hF.2.2 7 (by decide)
  have w1 : o1 - o0 ≤ 1000 := hF.2.1.1
  have w2 : o3 - o2 ≤ 1000 := hF.2.1.2
  have q0 : o.getD 0 0 = o0 := by rw [eo]; rfl
  have q1 : o.getD 1 0 = o1 := by rw [eo]; rfl
  have q2 : o.getD 2 0 = o2 := by rw [eo]; rfl
  have q3 : o.getD 3 0 = o3 := by rw [eo]; rfl
  have q4 : o.getD 4 0 = o4 := by rw [eo]; rfl
  have q5 : o.getD 5 0 = o5 := by rw [eo]; rfl
  have q6 : o.getD 6 0 = o6 := by rw [eo]; rfl
  have q7 : o.getD 7 0 = o7 := by rw [eo]; rfl
  refine ⟨(by show 0 ≤ sizeLine; decide), fun pr H1 hpr g1 e1 => ?_⟩
  refine ⟨_, rfl, b, a, _, rfl, SqG.same g1 ha, h8, _, rfl, iteB (fun kf => ?_) (fun kf => ?_)⟩
  · refine ⟨_, rfl, q pr [] H1 hpr g1 e1 ?_⟩
    rw [quarts_flat (of_decide_eq_true kf)]
    exact .nil
  have h1 := SqG.same g1 ha
  have npr : ∀ {bb : Addr} {u : HO}, H bb = some u → bb ≠ pr := fun {bb u} eb => ne_of_none eb hpr
  let cq : Int → List (Int × Int × Int) := fun x => colQ o x (iv o2 o3)
  refine ⟨_, rfl, b, a, _, _, _, rfl, rfl, h1, atI_nat (j := 0) rfl, _, rfl, b, a, _, _, _, rfl, rfl, h1, atI_nat (j := 1) rfl, o0, o1, rfl, ⟨by omega, by omega, by omega, by omega⟩, ?_⟩
  refine for_range (lo := o0) (n := (o1 - o0).toNat) (fun i σ H3 => ∃ (v2 v3 v4 v5 : Option V) (acc : List V), σ = [some (.ref a), some (.ref pr), v2, v3, v4, v5] ∧ Same H H3 ∧ H3 pr = some (.lst acc) ∧ QL H3 (((iv o0 o1).take i).flatMap cq) acc ∧ acc.length ≤ i * 4000)
    ⟨none, none, none, none, [], rfl, g1, e1, .nil, Nat.zero_le _⟩ ?_ ?_
  · rintro i σ H3 hi ⟨v2, v3, v4, v5, acc, rfl, g3, e3, l3, z3⟩
    have h3 := SqG.same g3 ha
    refine ⟨_, rfl, b, a, _, _, _, rfl, rfl, h3, atI_nat (j := 2) rfl, _, rfl, b, a, _, _, _, rfl, rfl, h3, atI_nat (j := 4) rfl, _, rfl, _, _, rfl, rfl, _, _, rfl, rfl, _, rfl, _, rfl, b, a, _, _, _, rfl, rfl, h3, atI_nat (j := 7) rfl, _, _, rfl, rfl, _, _, _, rfl, fun lo l1 l2 l3' l4 => ?_⟩
    refine ⟨_, rfl, b, a, _, _, _, rfl, rfl, h3, atI_nat (j := 3) rfl, _, rfl, b, a, _, _, _, rfl, rfl, h3, atI_nat (j := 5) rfl, _, rfl, _, _, rfl, rfl, _, rfl, _, _, rfl, rfl, _, rfl, b, a, _, _, _, rfl, rfl, h3, atI_nat (j := 6) rfl, _, _, rfl, rfl, _, _, _, rfl, fun hi' u1 u2 u3 u4 => ?_⟩
    have hx : o0 ≤ o0 + (i : Int) ∧ o0 + (i : Int) < o1 := by omega
    refine ⟨_, rfl, _, rfl, lo, hi', rfl, ⟨by omega, by omega, by omega, by omega⟩, ?_⟩
    refine for_range (lo := lo) (n := (hi' - lo).toNat) (fun j σ H4 => ∃ (v5 : Option V) (ac : List V), σ = [some (.ref a), some (.ref pr), some (.int (o0 + (i : Int))), some (.int lo), some (.int hi'), v5] ∧ Same H H4 ∧ H4 pr = some (.lst ac) ∧ QL H4 (((iv o0 o1).take i).flatMap cq ++ ((iv lo hi').take j).flatMap fun y => cellQ o (o0 + (i : Int)) y) ac ∧ ac.length ≤ acc.length + 4 * j)
      ⟨v5, acc, rfl, g3, e3, by rw [List.take_zero, List.flatMap_nil, List.append_nil]; exact l3, Nat.le_add_right _ _⟩ ?_ ?_
    · rintro j σ H4 hj ⟨v5, ac, rfl, g4, e4, l4', z4⟩
      have h4 := SqG.same g4 ha
      refine ⟨_, rfl, .inl ⟨rfl, _, SqL.of e4⟩, 4, rfl, by decide, by decide, ?_⟩
      refine comp_genP (fun σ' => ∃ z, σ' = [z, some (.ref a), some (.int (o0 + (i : Int))), some (.int (lo + (j : Int)))]) 4 (by decide) (fun k H v => ∃ a, v = V.ref a ∧ H a = some (.tup [.int (o0 + (i : Int)), .int (lo + (j : Int)), .int (k : Int)])) (fun k H H' v t ⟨a, e, z⟩ => ⟨a, e, t _ _ z rfl⟩) (fun k => decide (HoldP o (o0 + (i : Int)) (lo + (j : Int)) k)) ⟨none, rfl⟩ (fun i H' _ hi => hi) (fun H' _ => Nat.le_refl _) ?_ ?_
      · rintro s3 H3' fp k σ' H' hk ⟨z, rfl⟩ sm v Hx ⟨rfl, rfl⟩ Nx Ap hN hA
        refine ⟨_, rfl, _, rfl, _, rfl, _, rfl, (by show 3 ≤ sizeLine; decide), fun pt H5 hpt g5 e5 => ?_⟩
        have z0 : (0 + (k : Int)) = (k : Int) := by omega
        rw [z0] at e5
        refine ⟨b, true, a, pt, o, o0 + (i : Int), lo + (j : Int), k, rfl, by rw [eo]; exact SqG.same (sm.trans' g5) h4, by rw [eo]; rfl, SqT.of e5, hk, fun H6 g6 => ⟨_, rfl, iteB (fun hb => ?_) (fun hb => ?_)⟩⟩
        · refine ⟨_, rfl, _, rfl, _, rfl, (by show 3 ≤ sizeLine; decide), fun pe H7 hpe g7 e7 => ?_⟩
          rw [z0] at e7
          exact hA hb _ _ H7 ⟨_, rfl⟩ (g5.trans' (g6.trans' g7)) ⟨_, rfl, e7⟩
        · exact hN hb _ H6 ⟨_, rfl⟩ (g5.trans' g6)
      · intro pz acc2 H5 hpz g5 e5 l5
        have l5 : QL H5 (cellQ o (o0 + (i : Int)) (lo + (j : Int))) acc2 := paired_mapL (fun k : Nat => (o0 + (i : Int), lo + (j : Int), (k : Int))) l5
        have z5 : acc2.length ≤ 4 := by
          have := l5.len
          have := cellQ_len o (o0 + (i : Int)) (lo + (j : Int))
          omega
        refine ⟨pr, pz, ac, acc2, rfl, rfl, g5 _ _ e4, e5, (by show ac.length + acc2.length ≤ 2 ^ 24; omega), fun H6 P6 => ?_⟩
        have T6 : TSame H5 H6 := P6.t (g5 _ _ e4) rfl
        refine ⟨_, ac ++ acc2, rfl, fun bb u eb => P6.keep (g5 _ _ (g4 _ _ eb)) (npr eb), P6.at_, ?_, by rw [List.length_append]; omega⟩
        rw [take_iv _ _ _ hj, ← List.append_assoc]
        exact paired_append (l4'.t ((Same.t g5).trans T6)) (l5.t T6)
    · rintro σ H4 ⟨v5, ac, rfl, g4, e4, l4', z4⟩
      refine ⟨_, _, _, _, ac, rfl, g4, e4, ?_, by omega⟩
      rw [take_iv_all] at l4'
      have ec : (iv lo hi').flatMap (fun y => cellQ o (o0 + (i : Int)) y) = cq (o0 + (i : Int)) := by
        have := col_part (o := o) (x := o0 + (i : Int)) (lo := lo) (hi := hi') (by rw [q2]; exact l1) (by rw [q2, q4, q7]; exact l4) (by rw [q3]; exact u1) (by rw [q3, q5, q6]; exact u4)
        rw [q2, q3] at this
        exact this
      rw [ec] at l4'
      rw [take_iv _ _ _ hi]
      exact l4'
  · rintro σ H3 ⟨v2, v3, v4, v5, acc, rfl, g3, e3, l3, z3⟩
    refine ⟨_, rfl, q pr acc H3 hpr g3 e3 ?_⟩
    rw [take_iv_all] at l3
    have eq' : quarts [o0, o1, o2, o3, o4, o5, o6, o7] = (iv o0 o1).flatMap cq := by
      rw [← eo]
      unfold quarts
      rw [q0, q1, q2, q3]
    rw [eq']
    exact l3
end
end Mp

namespace Mp
open PySem L2
/-! ### what is an octo -/
/-- some y keeps to all bounds at x -/
def EndP (x s n a b c d : Int) : Prop := ∃ y, s ≤ y ∧ y ≤ n ∧ a ≤ x + y ∧ x + y ≤ b ∧ c ≤ x - y ∧ x - y ≤ d
def Ends (w e s n a b c d : Int) : Prop := w ≤ e ∧ EndP w s n a b c d ∧ EndP e s n a b c d
def Met (w e s n a b c d : Int) : Prop := Ends w e s n a b c d ∧ Ends s n w e a b (-d) (-c) ∧ Ends a b c d (2 * w) (2 * e) (2 * s) (2 * n) ∧ Ends c d a b (2 * w) (2 * e) (-2 * n) (-2 * s)
theorem endP_of {x s n a b c d p q : Int} (h1 : s ≤ p) (h2 : a - x ≤ p) (h3 : x - d ≤ p) (h4 : p = s ∨ p = a - x ∨ p = x - d) (k1 : q ≤ n) (k2 : q ≤ b - x) (k3 : q ≤ x - c) (k4 : q = n ∨ q = b - x ∨ q = x - c) : ¬ p > q ↔ EndP x s n a b c d := by
  constructor
  · intro h
    exact ⟨p, by omega, by omega, by omega, by omega, by omega, by omega⟩
  · rintro ⟨y, _, _, _, _, _, _⟩ z
    omega
def octoP (ds : List Dt) : Prop := ∃ w e s n a b c d, ds = [.int w, .int e, .int s, .int n, .int a, .int b, .int c, .int d] ∧ Met w e s n a b c d
theorem nums8 : ∀ {ds : List Dt}, ds.length = 8 → ds.all isNum = true → ∃ w e s n a b c d, ds = [.int w, .int e, .int s, .int n, .int a, .int b, .int c, .int d]
  | [d1, d2, d3, d4, d5, d6, d7, d8], _, h => by
    simp only [List.all_cons, List.all_nil, Bool.and_true, Bool.and_eq_true] at h
    obtain ⟨h1, h2, h3, h4, h5, h6, h7, h8⟩ := h
    cases d1 <;> simp [isNum] at h1
    cases d2 <;> simp [isNum] at h2
    cases d3 <;> simp [isNum] at h3
    cases d4 <;> simp [isNum] at h4
    cases d5 <;> simp [isNum] at h5
    cases d6 <;> simp [isNum] at h6
    cases d7 <;> simp [isNum] at h7
    cases d8 <;> simp [isNum] at h8
    exact ⟨_, _, _, _, _, _, _, _, rfl⟩
def sp8 (M : Int → Int → Int → Int → Int → Int → Int → Int → Prop) : Sp := fun vs H Q _ => ∃ w e s n a b c d : Int, vs = [.int w, .int e, .int s, .int n, .int a, .int b, .int c, .int d] ∧ ∀ (r : Bool) (H' : Hp), (r = true ↔ M w e s n a b c d) → Same H H' → Q (.bl r) H'
def spIsOcto (K : PySem.W.Frag) : Sp := fun vs H Q _ => ∃ (x : V), vs = [x] ∧ ((NoRow K H x ∧ ∀ H', Same H H' → Q (.bl false) H') ∨ ∃ ds, Row K H x ds ∧ ∀ (r : Bool) (H' : Hp), (r = true ↔ octoP ds) → Same H H' → Q (.bl r) H')
section
variable {P : Program} {w : World} {K : PySem.W.Frag} {mg : Str → Option Value} {base : Heap}
theorem scEn : FnScope ["w", "e", "s", "n", "a", "b", "c", "d", "x"] ["w", "e", "s", "n", "a", "b", "c", "d"] (defScope s_ends_met) := ⟨rfl, rfl, rfl, by decide +kernel, rfl, by decide +kernel, by decide +kernel⟩
set_option maxHeartbeats 1000000 in
theorem ok_ends {f : Addr} {fd : FuncData} (F : Fun K "ends_met" "ends_met" s_ends_met f fd) (T : Txt mg) : FnOk P w K mg base CX0 1 f fd ["w", "e", "s", "n", "a", "b", "c", "d"] (sp8 Ends) := by
  refine F.ok scEn (fun vs H Q E h => ?_) (fun cdv A outer s H vs Q E hr h => ?_)
  · obtain ⟨w, e, s, n, a, b, c, d, rfl, _⟩ := h
    rfl
  obtain ⟨w, e, s, n, a, b, c, d, rfl, q⟩ := h
  have sc := @scEn
  refine ⟨_, (@pss_cons _ _ _ _ _ (@ps_for _ _ _ _ _ _ _ _ PassesOwn.never rfl (pi_tup (@pe_tupA _ _ _ _ _ (@pa_cons _ _ _ _ _ (pv 0) (@pa_cons _ _ _ _ _ (pv 1) pa_nil (by rfl)) (by rfl)))) (pg_name (i := 8) sc.nd rfl (Or.inl rfl)) (@pss_one _ _ _ (@ps_if _ _ _ _ _ _ _ _ (@pt_cmpR _ _ _ _ _ _ _ _ op_gt (@pe_callB _ _ _ _ _ _ _ _ _ (call_max3 rfl) (by rfl) T.max (by decide +kernel) (@pa_cons _ _ _ _ _ (pv 2) (@pa_cons _ _ _ _ _ (@pe_op _ _ _ _ _ _ _ _ op_sub (pv 4) (pv 8)) (@pa_cons _ _ _ _ _ (@pe_op _ _ _ _ _ _ _ _ op_sub (pv 8) (pv 7)) pa_nil (by rfl)) (by rfl)) (by rfl)) (by decide) (by decide) (by rfl) (by rfl)) (@pe_callB _ _ _ _ _ _ _ _ _ (call_min3 rfl) (by rfl) T.min (by decide +kernel) (@pa_cons _ _ _ _ _ (pv 3) (@pa_cons _ _ _ _ _ (@pe_op _ _ _ _ _ _ _ _ op_sub (pv 5) (pv 8)) (@pa_cons _ _ _ _ _ (@pe_op _ _ _ _ _ _ _ _ op_sub (pv 8) (pv 6)) pa_nil (by rfl)) (by rfl)) (by rfl)) (by decide) (by decide) (by rfl) (by rfl)) (nomark _)) (@pss_one _ _ _ (@ps_ret _ _ _ _ pe_bl)) pss_nil)) (by intro _; rfl)) (@pss_one _ _ _ (@ps_ret _ _ _ _ (pe_cmpR op_le (pv 0) (pv 1) (nomark _))))), ?_⟩
  refine ⟨_, rfl, _, rfl, (by show 2 ≤ sizeLine; decide), fun p H1 hp g1 e1 => ?_⟩
  have each : ∀ (k : Nat) (v : V), ([.int w, .int e] : List V)[k]? = some v → ∃ x, v = .int x ∧ ([w, e] : List Int)[k]? = some x := fun k v hk => by
    match k, hk with
    | 0, h => cases h; exact ⟨_, rfl, rfl⟩
    | 1, h => cases h; exact ⟨_, rfl, rfl⟩
  refine ⟨p, rfl, ⟨_, SqT.of e1⟩, for_tup (K := K) (a := p) (xs := [.int w, .int e]) (fun i σ H2 => ∃ (v8 : Option V), σ = [some (.int w), some (.int e), some (.int s), some (.int n), some (.int a), some (.int b), some (.int c), some (.int d), v8] ∧ H2 = H1 ∧ ∀ j x, j < i → ([w, e] : List Int)[j]? = some x → EndP x s n a b c d) ⟨none, rfl, rfl, fun j x hj => absurd hj (Nat.not_lt_zero _)⟩ (fun i σ H2 _ ⟨_, _, g, _⟩ => by rw [g]; exact SqT.of e1) ?_ ?_⟩
  · rintro i v σ H2 hv ⟨v8, rfl, rfl, ih⟩
    obtain ⟨x, rfl, hx⟩ := each i v hv
    refine ⟨_, rfl, _, rfl, _, rfl, _, _, rfl, rfl, _, rfl, _, rfl, _, _, rfl, rfl, _, _, _, rfl, fun m m1 m2 m3 m4 => ?_⟩
    refine ⟨_, rfl, _, rfl, _, rfl, _, _, rfl, rfl, _, rfl, _, rfl, _, _, rfl, rfl, _, _, _, rfl, fun m' m1' m2' m3' m4' => ?_⟩
    have key := endP_of m1 m2 m3 m4 m1' m2' m3' m4'
    refine ⟨_, _, rfl, rfl, _, rfl, iteB (fun hb => ?_) (fun hb => ?_)⟩
    · have hb' : m > m' := of_decide_eq_true hb
      refine q false _ ⟨(fun z => nomatch z), fun z => ?_⟩ g1
      have hn : ¬ EndP x s n a b c d := fun z => key.mpr z hb'
      match i, hx with
      | 0, h => cases h; exact absurd z.2.1 hn
      | 1, h => cases h; exact absurd z.2.2 hn
    · have hb' : ¬ m > m' := of_decide_eq_false hb
      refine ⟨_, rfl, rfl, fun j y hj hy => ?_⟩
      by_cases e2 : j = i
      · subst e2
        rw [hx] at hy
        cases hy
        exact key.mp hb'
      · exact ih j y (by omega) hy
  · rintro σ H2 ⟨v8, rfl, rfl, ih⟩
    refine ⟨_, rfl, _, rfl, _, _, rfl, rfl, q _ _ ?_ g1⟩
    rw [decide_eq_true_iff]
    exact ⟨fun z => ⟨z, ih 0 _ (by show 0 < 2; decide) rfl, ih 1 _ (by show 1 < 2; decide) rfl⟩, fun z => z.1⟩
theorem scAm : FnScope ["w", "e", "s", "n", "a", "b", "c", "d"] ["w", "e", "s", "n", "a", "b", "c", "d"] (defScope s_all_met) := ⟨rfl, rfl, rfl, by decide +kernel, rfl, by decide +kernel, by decide +kernel⟩
set_option maxHeartbeats 1000000 in
theorem ok_met {f : Addr} {fd : FuncData} (F : Fun K "all_met" "all_met" s_all_met f fd) (G_ends_met : Cal P w K mg base 1 "ends_met" ["w", "e", "s", "n", "a", "b", "c", "d"] (sp8 Ends)) : FnOk P w K mg base CX0 2 f fd ["w", "e", "s", "n", "a", "b", "c", "d"] (sp8 Met) := by
  refine F.ok scAm (fun vs H Q E h => ?_) (fun cdv A outer s H vs Q E hr h => ?_)
  · obtain ⟨w, e, s, n, a, b, c, d, rfl, _⟩ := h
    rfl
  obtain ⟨w, e, s, n, a, b, c, d, rfl, q⟩ := h
  have sc := @scAm
  refine ⟨_, (@pss_one _ _ _ (@ps_ret _ _ _ _ (pe_and (@pe_def _ _ _ _ _ _ _ _ _ _ _ G_ends_met hr (by rfl) (@pa_cons _ _ _ _ _ (pv 0) (@pa_cons _ _ _ _ _ (pv 1) (@pa_cons _ _ _ _ _ (pv 2) (@pa_cons _ _ _ _ _ (pv 3) (@pa_cons _ _ _ _ _ (pv 4) (@pa_cons _ _ _ _ _ (pv 5) (@pa_cons _ _ _ _ _ (pv 6) (@pa_cons _ _ _ _ _ (pv 7) pa_nil (by rfl)) (by rfl)) (by rfl)) (by rfl)) (by rfl)) (by rfl)) (by rfl)) (by rfl)) (by omega) (by decide) (by rfl) (by rfl)) (pe_and (@pe_def _ _ _ _ _ _ _ _ _ _ _ G_ends_met hr (by rfl) (@pa_cons _ _ _ _ _ (pv 2) (@pa_cons _ _ _ _ _ (pv 3) (@pa_cons _ _ _ _ _ (pv 0) (@pa_cons _ _ _ _ _ (pv 1) (@pa_cons _ _ _ _ _ (pv 4) (@pa_cons _ _ _ _ _ (pv 5) (@pa_cons _ _ _ _ _ (@pe_un _ _ _ _ _ _ un_neg (pv 7)) (@pa_cons _ _ _ _ _ (@pe_un _ _ _ _ _ _ un_neg (pv 6)) pa_nil (by rfl)) (by rfl)) (by rfl)) (by rfl)) (by rfl)) (by rfl)) (by rfl)) (by rfl)) (by omega) (by decide) (by rfl) (by rfl)) (pe_and (@pe_def _ _ _ _ _ _ _ _ _ _ _ G_ends_met hr (by rfl) (@pa_cons _ _ _ _ _ (pv 4) (@pa_cons _ _ _ _ _ (pv 5) (@pa_cons _ _ _ _ _ (pv 6) (@pa_cons _ _ _ _ _ (pv 7) (@pa_cons _ _ _ _ _ (@pe_op _ _ _ _ _ _ _ _ op_mul pe_int (pv 0)) (@pa_cons _ _ _ _ _ (@pe_op _ _ _ _ _ _ _ _ op_mul pe_int (pv 1)) (@pa_cons _ _ _ _ _ (@pe_op _ _ _ _ _ _ _ _ op_mul pe_int (pv 2)) (@pa_cons _ _ _ _ _ (@pe_op _ _ _ _ _ _ _ _ op_mul pe_int (pv 3)) pa_nil (by rfl)) (by rfl)) (by rfl)) (by rfl)) (by rfl)) (by rfl)) (by rfl)) (by rfl)) (by omega) (by decide) (by rfl) (by rfl)) (pe_one (@pe_def _ _ _ _ _ _ _ _ _ _ _ G_ends_met hr (by rfl) (@pa_cons _ _ _ _ _ (pv 6) (@pa_cons _ _ _ _ _ (pv 7) (@pa_cons _ _ _ _ _ (pv 4) (@pa_cons _ _ _ _ _ (pv 5) (@pa_cons _ _ _ _ _ (@pe_op _ _ _ _ _ _ _ _ op_mul pe_int (pv 0)) (@pa_cons _ _ _ _ _ (@pe_op _ _ _ _ _ _ _ _ op_mul pe_int (pv 1)) (@pa_cons _ _ _ _ _ (@pe_op _ _ _ _ _ _ _ _ op_mul (@pe_un _ _ _ _ _ _ un_neg pe_int) (pv 3)) (@pa_cons _ _ _ _ _ (@pe_op _ _ _ _ _ _ _ _ op_mul (@pe_un _ _ _ _ _ _ un_neg pe_int) (pv 2)) pa_nil (by rfl)) (by rfl)) (by rfl)) (by rfl)) (by rfl)) (by rfl)) (by rfl)) (by rfl)) (by omega) (by decide) (by rfl) (by rfl)))))))), ?_⟩
  refine ⟨_, rfl, _, rfl, _, rfl, _, rfl, _, rfl, _, rfl, _, rfl, _, rfl, _, _, _, _, _, _, _, _, rfl, fun r1 H1 i1 g1 => ?_⟩
  refine ⟨_, rfl, iteB (fun hb => ?_) (fun hb => ?_)⟩
  · have t1 := i1.mp hb
    refine ⟨_, rfl, _, rfl, _, rfl, _, rfl, _, rfl, _, rfl, _, rfl, _, rfl, _, rfl, _, rfl, _, _, _, _, _, _, _, _, rfl, fun r2 H2 i2 g2 => ?_⟩
    refine ⟨_, rfl, iteB (fun hb => ?_) (fun hb => ?_)⟩
    · have t2 := i2.mp hb
      refine ⟨_, rfl, _, rfl, _, rfl, _, rfl, _, rfl, _, _, rfl, rfl, .inl (by decide), _, rfl, _, _, rfl, rfl, .inl (by decide), _, rfl, _, _, rfl, rfl, .inl (by decide), _, rfl, _, _, rfl, rfl, .inl (by decide), _, _, _, _, _, _, _, _, rfl, fun r3 H3 i3 g3 => ?_⟩
      refine ⟨_, rfl, iteB (fun hb => ?_) (fun hb => ?_)⟩
      · have t3 := i3.mp hb
        refine ⟨_, rfl, _, rfl, _, rfl, _, rfl, _, rfl, _, _, rfl, rfl, .inl (by decide), _, rfl, _, _, rfl, rfl, .inl (by decide), _, rfl, _, rfl, _, _, rfl, rfl, .inl (by decide), _, rfl, _, rfl, _, _, rfl, rfl, .inl (by decide), _, _, _, _, _, _, _, _, rfl, fun r4 H4 i4 g4 => ?_⟩
        exact q r4 H4 ⟨fun z => ⟨t1, t2, t3, i4.mp z⟩, fun z => i4.mpr z.2.2.2⟩ (g1.trans' (g2.trans' (g3.trans' g4)))
      · exact q false H3 ⟨(fun z => nomatch z), fun z => hb.symm.trans (i3.mpr z.2.2.1)⟩ (g1.trans' (g2.trans' g3))
    · exact q false H2 ⟨(fun z => nomatch z), fun z => hb.symm.trans (i2.mpr z.2.1)⟩ (g1.trans' g2)
  · exact q false H1 ⟨(fun z => nomatch z), fun z => hb.symm.trans (i1.mpr z.1)⟩ g1
theorem scIo : FnScope ["thing"] ["thing"] (defScope s_is_octo) := ⟨rfl, rfl, rfl, by decide +kernel, rfl, by decide +kernel, by decide +kernel⟩
set_option maxHeartbeats 1000000 in
theorem ok_is_octo {f : Addr} {fd : FuncData} (F : Fun K "is_octo" "is_octo" s_is_octo f fd) (T : Txt mg) (G_are_numbers : Cal P w K mg base 2 "are_numbers" ["thing", "many"] (spNums K)) (G_all_met : Cal P w K mg base 2 "all_met" ["w", "e", "s", "n", "a", "b", "c", "d"] (sp8 Met)) : FnOk P w K mg base CX0 3 f fd ["thing"] (spIsOcto K) := by
  refine F.ok scIo (fun vs H Q E h => ?_) (fun cdv A outer s H vs Q E hr h => ?_)
  · obtain ⟨x, rfl, _⟩ := h
    rfl
  obtain ⟨x, rfl, h⟩ := h
  have sc := @scIo
  refine ⟨_, (@pss_cons _ _ _ _ _ (@ps_if _ _ _ _ _ _ _ _ (pt_not (pt_val (@pe_def _ _ _ _ _ _ _ _ _ _ _ G_are_numbers hr (by rfl) (@pa_cons _ _ _ _ _ (pv 0) (@pa_cons _ _ _ _ _ pe_int pa_nil (by rfl)) (by rfl)) (by omega) (by decide) (by rfl) (by rfl)))) (@pss_one _ _ _ (@ps_ret _ _ _ _ pe_bl)) pss_nil) (@pss_one _ _ _ (@ps_ret _ _ _ _ (@pe_def _ _ _ _ _ _ _ _ _ _ _ G_all_met hr (by rfl) (@pa_cons _ _ _ _ _ (@pe_ix _ _ _ _ _ _ _ ix_G (pv 0) pe_int (fun _ _ => rfl)) (@pa_cons _ _ _ _ _ (@pe_ix _ _ _ _ _ _ _ ix_G (pv 0) pe_int (fun _ _ => rfl)) (@pa_cons _ _ _ _ _ (@pe_ix _ _ _ _ _ _ _ ix_G (pv 0) pe_int (fun _ _ => rfl)) (@pa_cons _ _ _ _ _ (@pe_ix _ _ _ _ _ _ _ ix_G (pv 0) pe_int (fun _ _ => rfl)) (@pa_cons _ _ _ _ _ (@pe_ix _ _ _ _ _ _ _ ix_G (pv 0) pe_int (fun _ _ => rfl)) (@pa_cons _ _ _ _ _ (@pe_ix _ _ _ _ _ _ _ ix_G (pv 0) pe_int (fun _ _ => rfl)) (@pa_cons _ _ _ _ _ (@pe_ix _ _ _ _ _ _ _ ix_G (pv 0) pe_int (fun _ _ => rfl)) (@pa_cons _ _ _ _ _ (@pe_ix _ _ _ _ _ _ _ ix_G (pv 0) pe_int (fun _ _ => rfl)) pa_nil (by rfl)) (by rfl)) (by rfl)) (by rfl)) (by rfl)) (by rfl)) (by rfl)) (by rfl)) (by omega) (by decide) (by rfl) (by rfl))))), ?_⟩
  rcases h with ⟨hN, q⟩ | ⟨ds, hR, q⟩
  · refine ⟨_, rfl, x, 8, rfl, .inl ⟨hN, fun H1 g1 => ⟨_, rfl, ?_⟩⟩⟩
    exact iteBT rfl (q H1 g1)
  · refine ⟨_, rfl, x, 8, rfl, .inr ⟨ds, hR, fun H1 g1 => ⟨_, rfl, ?_⟩⟩⟩
    refine iteB (fun hb => ?_) (fun hb => ?_)
    · refine q false H1 ⟨(fun z => nomatch z), fun ⟨w, e, s, n, a, b, c, d, z, _⟩ => ?_⟩ g1
      subst z
      simp [isNum] at hb
    · have hb' : (decide ((ds.length : Int) = 8) && ds.all isNum) = true := by
        cases z : (decide ((ds.length : Int) = 8) && ds.all isNum) with
        | true => rfl
        | false => rw [z] at hb; cases hb
      rw [Bool.and_eq_true] at hb'
      have h8 : ds.length = 8 := by have := of_decide_eq_true hb'.1; omega
      obtain ⟨w, e, s, n, a, b, c, d, rfl⟩ := nums8 h8 hb'.2
      obtain ⟨bb, ad, xs, rfl, hs, hl, hz⟩ := Row.same g1 hR
      have ex := ints_hasL (ns := [w, e, s, n, a, b, c, d]) hl
      subst ex
      refine ⟨_, rfl, bb, ad, _, _, _, rfl, rfl, hs, atI_nat (j := 0) rfl, _, rfl, bb, ad, _, _, _, rfl, rfl, hs, atI_nat (j := 1) rfl, _, rfl, bb, ad, _, _, _, rfl, rfl, hs, atI_nat (j := 2) rfl, _, rfl, bb, ad, _, _, _, rfl, rfl, hs, atI_nat (j := 3) rfl, ?_⟩
      refine ⟨_, rfl, bb, ad, _, _, _, rfl, rfl, hs, atI_nat (j := 4) rfl, _, rfl, bb, ad, _, _, _, rfl, rfl, hs, atI_nat (j := 5) rfl, _, rfl, bb, ad, _, _, _, rfl, rfl, hs, atI_nat (j := 6) rfl, _, rfl, bb, ad, _, _, _, rfl, rfl, hs, atI_nat (j := 7) rfl, ?_⟩
      refine ⟨_, _, _, _, _, _, _, _, rfl, fun r H2 i2 g2 => q r H2 ⟨fun z => ⟨_, _, _, _, _, _, _, _, rfl, i2.mp z⟩, fun ⟨w, e, s, n, a, b, c, d, z, k⟩ => ?_⟩ (g1.trans' g2)⟩
      injection z with z1 z
      injection z with z2 z
      injection z with z3 z
      injection z with z4 z
      injection z with z5 z
      injection z with z6 z
      injection z with z7 z
      injection z with z8 z
      cases z1; cases z2; cases z3; cases z4; cases z5; cases z6; cases z7; cases z8
      exact i2.mpr k
end
end Mp

namespace Mp
open PySem L2
/-! ### drawn corners -/
theorem StAt.t {H H' : Hp} {st c : Addr} {cs : List Int} {t : Int} (S : StAt H st c cs t) (k : Kp st c H H') : TSame H H' := fun b o e ht => by
  refine k b o e (fun z => ?_) (fun z => ?_)
  · subst z
    rw [S.d] at e
    cases e
    cases ht
  · subst z
    rw [S.l] at e
    cases e
    cases ht
def ptD (p : Int × Int) : Dt := .tup (di [p.1, p.2])
theorem ptD_t (p : Int × Int) : tupO (ptD p) = true := tupO_ints _
theorem ptD_at {K : PySem.W.Frag} {H : Hp} {ps : List (Int × Int)} {xs : List V} (h : HasL K H (ps.map ptD) xs) {i : Nat} {v : V} (hv : xs[i]? = some v) : ∃ a, v = .ref a ∧ SqT K H a [.int (ps.getD i (0, 0)).1, .int (ps.getD i (0, 0)).2] := by
  have hl := h.len
  have hi : i < ps.length := by
    have := (List.getElem?_eq_some_iff.mp hv).1
    rw [List.length_map] at hl
    omega
  have e : ps.getD i (0, 0) = ps[i] := by simp [List.getD_eq_getElem?_getD, hi]
  have g : Has K H (ptD ps[i]) v := h.get (by rw [List.getElem?_map, List.getElem?_eq_getElem hi]; rfl) hv
  rw [ptD, Has] at g
  obtain ⟨a, ys, rfl, hs, hy⟩ := g
  have ey := ints_hasL (ns := [ps[i].1, ps[i].2]) hy
  subst ey
  rw [e]
  exact ⟨a, rfl, hs⟩
theorem has_pt {K : PySem.W.Frag} {H : Hp} {a : Addr} {x y : Int} (h : SqT K H a [.int x, .int y]) : Has K H (ptD (x, y)) (.ref a) := has_tupI (ns := [x, y]) h
/-- [te for x, y in corners] -/
theorem comp_pairs {K : PySem.W.Frag} {b : Bool} {a : Addr} {xs : List V} {frs : List (Option Nat)} {te : Shared → Hp → List Addr → TE} {σ : St} {H1 : Hp} {Q : VK} (ps : List (Int × Int)) (hq : SqG b K H1 a xs) (hp : HasL K H1 (ps.map ptD) xs) (hn : ps.length < sizeLine) (d : Nat → Dt) (hd : ∀ i, tupO (d i) = true)
    (he : ∀ s3 H3' fp i H', i < ps.length → Same H1 H' → ∀ Ap : V → Hp → Prop, (∀ u H5, Same H' H5 → Has K H5 (d i) u → Ap u H5) → te s3 H3' fp (some (.int (ps.getD i (0, 0)).1) :: some (.int (ps.getD i (0, 0)).2) :: compSt frs σ) H' Ap)
    (fin : ∀ p acc H', H1 p = none → Same H1 H' → H' p = some (.lst acc) → HasL K H' ((List.range ps.length).map d) acc → Q (.ref p) H') :
    CompB (Its K b a) (none :: none :: frs) (fun _ _ _ => gTup K 2 (gCons (gName 0) (gCons (gName 1) gNil))) (fun _ _ _ => tYes) te σ H1 Q := by
  have hl := hp.len
  rw [List.length_map] at hl
  refine comp_gen (K := K) (fun σ' => ∃ z z', σ' = z :: z' :: compSt frs σ) ps.length hn d (fun _ => true) hd ⟨none, none, rfl⟩ (its_go hq hl.symm) (its_stop hq hl.symm) ?_ ?_
  · rintro s3 H3' fp i σ' H' hi ⟨z, z', rfl⟩ sm v H2 hy Nx Ap _ hA
    obtain ⟨rfl, hv⟩ := its_yld hq sm hy
    obtain ⟨pa, rfl, hs⟩ := ptD_at (HasL.same sm hp) hv
    refine gpair_yes hs ?_
    exact he s3 H3' fp i _ hi sm _ fun u H5 s5 hu => hA rfl _ u H5 ⟨_, _, rfl⟩ s5 hu
  · intro p acc H' hp' sm hacc hl'
    rw [filter_tt] at hl'
    exact fin p acc H' hp' sm hacc hl'
end Mp
namespace Mp
open PySem L2
/-- a drawn tool -/
structure Tl (n0 n1 n2 n3 n4 most : Int) : Prop where
  a : 2 ≤ n0 ∧ n0 ≤ most
  b : 1 ≤ n1 ∧ n1 < n0
  c : 1 ≤ n2 ∧ n2 ≤ 9
  d : 1 ≤ n3 ∧ n3 ≤ 4
  e : 1 ≤ n4 ∧ n4 ≤ 9
def spLTool : Sp := fun vs H Q _ => ∃ (st c : Addr) (cs : List Int) (t most : Int), vs = [.ref st, .int most] ∧ StAt H st c cs t ∧ 0 ≤ t ∧ t < 2 ^ 39 ∧ 2 ≤ most ∧ most ≤ 100 ∧
  ∀ (n0 n1 n2 n3 n4 : Int) (cs' : List Int) (p : Addr) (H' : Hp), Tl n0 n1 n2 n3 n4 most → StAt H' st c cs' (t + 5) → Kp st c H H' → H' p = some (.tup ([n0, n1, n2, n3, n4].map V.int)) → Q (.ref p) H'
def spMark (K : PySem.W.Frag) : Sp := fun vs H Q _ => ∃ (b b' : Bool) (a a' : Addr) (n0 n1 n2 n3 n4 x y : Int), vs = [.ref a, .ref a'] ∧ SqG b K H a ([n0, n1, n2, n3, n4].map V.int) ∧ SqG b' K H a' [.int x, .int y] ∧
  ∀ (p : Addr) (H' : Hp), Same H H' → SqT K H' p (([x - n0, x + n0, y - n0, y + n0, x + y - (n0 + n1), x + y + (n0 + n1), x - y - (n0 + n1), x - y + (n0 + n1)] : List Int).map V.int) → Q (.ref p) H'
section
variable {P : Program} {w : World} {K : PySem.W.Frag} {mg : Str → Option Value} {base : Heap}
theorem scMk : FnScope ["tool", "corner", "r", "both"] ["tool", "corner"] (defScope s_mark_of) := ⟨rfl, rfl, rfl, by decide +kernel, rfl, by decide +kernel, by decide +kernel⟩
theorem ok_mark {f : Addr} {fd : FuncData} (F : Fun K "mark_of" "mark_of" s_mark_of f fd) (G_moved : Cal P w K mg base 2 "moved" ["octo", "corner"] (spMoved K)) : FnOk P w K mg base CX0 3 f fd ["tool", "corner"] (spMark K) := by
  refine F.ok scMk (fun vs H Q E h => ?_) (fun cdv A outer s H vs Q E hr h => ?_)
  · obtain ⟨b, b', a, a', n0, n1, n2, n3, n4, x, y, rfl, _⟩ := h
    rfl
  obtain ⟨b, b', a, a', n0, n1, n2, n3, n4, x, y, rfl, hs, hc, q⟩ := h
  have sc := @scMk
  refine ⟨_, (pss_cons (ps_set (i := 2) sc.nd rfl (Or.inl rfl) (pe_ix ix_G (pv 0) pe_int (fun _ _ => rfl)))
    (pss_cons (ps_set (i := 3) sc.nd rfl (Or.inl rfl) (pe_op op_add (pe_ix ix_G (pv 0) pe_int (fun _ _ => rfl)) (pe_ix ix_G (pv 0) pe_int (fun _ _ => rfl))))
    (pss_one (ps_ret (pe_def G_moved hr (by rfl) (pa_cons (pe_tupA (pa_cons (pe_un un_neg (pv 2)) (pa_cons (pv 2) (pa_cons (pe_un un_neg (pv 2)) (pa_cons (pv 2) (pa_cons (pe_un un_neg (pv 3)) (pa_cons (pv 3) (pa_cons (pe_un un_neg (pv 3)) (pa_cons (pv 3) pa_nil))))))))) (pa_cons (pv 1) pa_nil))))))), ?_⟩
  refine ⟨_, rfl, b, a, _, _, _, rfl, rfl, hs, atI_nat (j := 0) rfl, ?_⟩
  refine ⟨_, rfl, b, a, _, _, _, rfl, rfl, hs, atI_nat (j := 0) rfl, _, rfl, b, a, _, _, _, rfl, rfl, hs, atI_nat (j := 1) rfl, _, _, rfl, rfl, ?_⟩
  refine ⟨_, rfl, _, rfl, _, rfl, _, rfl, _, rfl, _, rfl, _, rfl, _, rfl, _, rfl, _, rfl, _, rfl, _, rfl, (by show 8 ≤ sizeLine; decide), fun p H1 hp g e => ?_⟩
  refine ⟨_, rfl, true, b', p, a', [-n0, n0, -n0, n0, -(n0 + n1), n0 + n1, -(n0 + n1), n0 + n1], x, y, rfl, SqT.of e, SqG.same g hc, rfl, fun p2 H2 g2 s2 => q p2 H2 (g.trans' g2) ?_⟩
  have ee : addL [-n0, n0, -n0, n0, -(n0 + n1), n0 + n1, -(n0 + n1), n0 + n1] [x, x, y, y, x + y, x + y, x - y, x - y] = [x - n0, x + n0, y - n0, y + n0, x + y - (n0 + n1), x + y + (n0 + n1), x - y - (n0 + n1), x - y + (n0 + n1)] := by
    show [-n0 + x, n0 + x, -n0 + y, n0 + y, -(n0 + n1) + (x + y), n0 + n1 + (x + y), -(n0 + n1) + (x - y), n0 + n1 + (x - y)] = _
    rw [show -n0 + x = x - n0 by omega, show n0 + x = x + n0 by omega, show -n0 + y = y - n0 by omega, show n0 + y = y + n0 by omega, show -(n0 + n1) + (x + y) = x + y - (n0 + n1) by omega, show n0 + n1 + (x + y) = x + y + (n0 + n1) by omega, show -(n0 + n1) + (x - y) = x - y - (n0 + n1) by omega, show n0 + n1 + (x - y) = x - y + (n0 + n1) by omega]
  rw [← ee]
  exact s2
theorem scLt : FnScope ["_law_state", "_law_most", "_law_r", "_law_k"] ["_law_state", "_law_most"] (defScope s_tool) := ⟨rfl, rfl, rfl, by decide +kernel, rfl, by decide +kernel, by decide +kernel⟩
theorem ok_ltool {f : Addr} {fd : FuncData} (F : Fun K "_law_tool" "_law_tool" s_tool f fd) (G_take : Cal P w K mg base 1 "_law_take" ["_law_state", "_law_many"] spTake) : FnOk P w K mg base CX0 2 f fd ["_law_state", "_law_most"] spLTool := by
  refine F.ok scLt (fun vs H Q E h => ?_) (fun cdv A outer s H vs Q E hr h => ?_)
  · obtain ⟨st, c, cs, t, most, rfl, _⟩ := h
    rfl
  obtain ⟨st, c, cs, t, most, rfl, S, t0, t1, m0, m1, q⟩ := h
  have sc := @scLt
  refine ⟨_, (pss_cons (ps_set (i := 2) sc.nd rfl (Or.inl rfl) (pe_op op_add pe_int (pe_def G_take hr (by rfl) (pa_cons (pv 0) (pa_cons (pe_op op_sub (pv 1) pe_int) pa_nil)))))
    (pss_cons (ps_set (i := 3) sc.nd rfl (Or.inl rfl) (pe_op op_add pe_int (pe_def G_take hr (by rfl) (pa_cons (pv 0) (pa_cons (pe_op op_sub (pv 2) pe_int) pa_nil)))))
    (pss_one (ps_ret (pe_tupA (pa_cons (pv 2) (pa_cons (pv 3) (pa_cons (pe_op op_add pe_int (pe_def G_take hr (by rfl) (pa_cons (pv 0) (pa_cons pe_int pa_nil)))) (pa_cons (pe_op op_add pe_int (pe_def G_take hr (by rfl) (pa_cons (pv 0) (pa_cons pe_int pa_nil)))) (pa_cons (pe_op op_add pe_int (pe_def G_take hr (by rfl) (pa_cons (pv 0) (pa_cons pe_int pa_nil)))) pa_nil)))))))))), ?_⟩
  refine ⟨_, rfl, _, rfl, _, _, rfl, rfl, st, c, cs, t, most - 1, rfl, S, t0, by omega, by omega, by omega, fun r1 cs1 H1 a1 b1 S1 K1 => ?_⟩
  refine ⟨_, _, rfl, rfl, ?_⟩
  refine ⟨_, rfl, _, rfl, _, _, rfl, rfl, st, c, cs1, t + 1, 2 + r1 - 1, rfl, S1, by omega, by omega, by omega, by omega, fun r2 cs2 H2 a2 b2 S2 K2 => ?_⟩
  refine ⟨_, _, rfl, rfl, ?_⟩
  refine ⟨_, rfl, _, rfl, _, rfl, st, c, cs2, t + 1 + 1, 9, rfl, S2, by omega, by omega, by omega, by omega, fun r3 cs3 H3 a3 b3 S3 K3 => ?_⟩
  refine ⟨_, _, rfl, rfl, _, rfl, st, c, cs3, t + 1 + 1 + 1, 4, rfl, S3, by omega, by omega, by omega, by omega, fun r4 cs4 H4 a4 b4 S4 K4 => ?_⟩
  refine ⟨_, _, rfl, rfl, _, rfl, st, c, cs4, t + 1 + 1 + 1 + 1, 9, rfl, S4, by omega, by omega, by omega, by omega, fun r5 cs5 H5 a5 b5 S5 K5 => ?_⟩
  refine ⟨_, _, rfl, rfl, (by show 5 ≤ sizeLine; decide), fun p H6 hp g6 e6 => ?_⟩
  refine q (2 + r1) (1 + r2) (1 + r3) (1 + r4) (1 + r5) cs5 p H6 ⟨by omega, by omega, by omega, by omega, by omega⟩ ?_ ?_ e6
  · rw [show t + 5 = t + 1 + 1 + 1 + 1 + 1 by omega]
    exact S5.same g6
  · exact K1.trans (K2.trans (K3.trans (K4.trans (K5.trans (Kp.same g6)))))
end
end Mp

namespace Mp
open PySem L2
/-! ### marks and ways -/
def mkO (r B cx cy : Int) : List Int := [cx - r, cx + r, cy - r, cy + r, cx + cy - B, cx + cy + B, cx - cy - B, cx - cy + B]
def swO (r B x0 y0 x1 y1 : Int) : List Int := [-r + min x0 x1, r + max x0 x1, -r + min y0 y1, r + max y0 y1, -B + min (x0 + y0) (x1 + y1), B + max (x0 + y0) (x1 + y1), -B + min (x0 - y0) (x1 - y1), B + max (x0 - y0) (x1 - y1)]
theorem swO_comm (r B x0 y0 x1 y1 : Int) : swO r B x1 y1 x0 y0 = swO r B x0 y0 x1 y1 := by
  unfold swO
  rw [Int.min_comm x1, Int.max_comm x1, Int.min_comm y1, Int.max_comm y1, Int.min_comm (x1 + y1), Int.max_comm (x1 + y1), Int.min_comm (x1 - y1), Int.max_comm (x1 - y1)]
theorem isMin2 (a b : Int) : IsMin [a, b] (min a b) := by
  refine ⟨?_, fun x hx => ?_⟩
  · rw [List.mem_cons, List.mem_singleton]; omega
  · rw [List.mem_cons, List.mem_singleton] at hx; omega
theorem isMax2 (a b : Int) : IsMax [a, b] (max a b) := by
  refine ⟨?_, fun x hx => ?_⟩
  · rw [List.mem_cons, List.mem_singleton]; omega
  · rw [List.mem_cons, List.mem_singleton] at hx; omega
theorem octo_two {x0 y0 x1 y1 : Int} {o : List Int} (h : OctoOf [(x0, y0), (x1, y1)] o) : o = [min x0 x1, max x0 x1, min y0 y1, max y0 y1, min (x0 + y0) (x1 + y1), max (x0 + y0) (x1 + y1), min (x0 - y0) (x1 - y1), max (x0 - y0) (x1 - y1)] :=
  h.one ⟨_, _, _, _, _, _, _, _, rfl, isMin2 _ _, isMax2 _ _, isMin2 _ _, isMax2 _ _, isMin2 _ _, isMax2 _ _, isMin2 _ _, isMax2 _ _⟩
def Dir (dx dy : Int) : Prop := (dx = 1 ∧ dy = 0) ∨ (dx = 1 ∧ dy = 1) ∨ (dx = 0 ∧ dy = 1) ∨ (dx = -1 ∧ dy = 1) ∨ (dx = -1 ∧ dy = 0) ∨ (dx = -1 ∧ dy = -1) ∨ (dx = 0 ∧ dy = -1) ∨ (dx = 1 ∧ dy = -1)
theorem hold_mk {r B cx cy x y : Int} {k : Nat} : HoldP (mkO r B cx cy) x y k ↔ (4 * (cx - r) < 4 * x + inX k ∧ 4 * x + inX k < 4 * (cx + r)) ∧ (4 * (cy - r) < 4 * y + inY k ∧ 4 * y + inY k < 4 * (cy + r)) ∧ (4 * (cx + cy - B) < 4 * x + inX k + (4 * y + inY k) ∧ 4 * x + inX k + (4 * y + inY k) < 4 * (cx + cy + B)) ∧ (4 * (cx - cy - B) < 4 * x + inX k - (4 * y + inY k) ∧ 4 * x + inX k - (4 * y + inY k) < 4 * (cx - cy + B)) := Iff.rfl
theorem hold_sw {r B x0 y0 x1 y1 x y : Int} {k : Nat} : HoldP (swO r B x0 y0 x1 y1) x y k ↔ (4 * (-r + min x0 x1) < 4 * x + inX k ∧ 4 * x + inX k < 4 * (r + max x0 x1)) ∧ (4 * (-r + min y0 y1) < 4 * y + inY k ∧ 4 * y + inY k < 4 * (r + max y0 y1)) ∧ (4 * (-B + min (x0 + y0) (x1 + y1)) < 4 * x + inX k + (4 * y + inY k) ∧ 4 * x + inX k + (4 * y + inY k) < 4 * (B + max (x0 + y0) (x1 + y1))) ∧ (4 * (-B + min (x0 - y0) (x1 - y1)) < 4 * x + inX k - (4 * y + inY k) ∧ 4 * x + inX k - (4 * y + inY k) < 4 * (B + max (x0 - y0) (x1 - y1))) := Iff.rfl
theorem in4 {k : Nat} (h : k < 4) : (inX k = 3 ∧ inY k = 2) ∨ (inX k = 2 ∧ inY k = 3) ∨ (inX k = 1 ∧ inY k = 2) ∨ (inX k = 2 ∧ inY k = 1) := by
  rcases four h with rfl | rfl | rfl | rfl
  · exact .inl ⟨rfl, rfl⟩
  · exact .inr (.inl ⟨rfl, rfl⟩)
  · exact .inr (.inr (.inl ⟨rfl, rfl⟩))
  · exact .inr (.inr (.inr ⟨rfl, rfl⟩))
theorem btw {c u j m : Int} (h0 : 0 ≤ j) (h1 : j ≤ m) : min c (c + m * u) ≤ c + j * u ∧ c + j * u ≤ max c (c + m * u) := by
  by_cases hu : 0 ≤ u
  · have k1 := Int.mul_le_mul_of_nonneg_right h1 hu
    have k2 := Int.mul_nonneg h0 hu
    omega
  · have k1 := Int.mul_le_mul_of_nonpos_right h1 (show u ≤ 0 by omega)
    have k2 := Int.mul_nonpos_of_nonneg_of_nonpos h0 (show u ≤ 0 by omega)
    omega
theorem way_back {r B cx cy dx dy j m x y : Int} {k : Nat} (hd : Dir dx dy) (h0 : 0 ≤ j) (h1 : j ≤ m) (h : HoldP (mkO r B (cx + j * dx) (cy + j * dy)) x y k) : HoldP (swO r B cx cy (cx + m * dx) (cy + m * dy)) x y k := by
  rw [hold_mk] at h
  rw [hold_sw]
  have s1 : ∀ z : Int, cx + z * dx + (cy + z * dy) = cx + cy + z * (dx + dy) := fun z => by rw [Int.mul_add]; omega
  have s2 : ∀ z : Int, cx + z * dx - (cy + z * dy) = cx - cy + z * (dx - dy) := fun z => by rw [Int.mul_sub]; omega
  rw [s1, s2] at h
  rw [s1, s2]
  obtain ⟨a1, a2⟩ := btw (c := cx) (u := dx) h0 h1
  obtain ⟨a3, a4⟩ := btw (c := cy) (u := dy) h0 h1
  obtain ⟨a5, a6⟩ := btw (c := cx + cy) (u := dx + dy) h0 h1
  obtain ⟨a7, a8⟩ := btw (c := cx - cy) (u := dx - dy) h0 h1
  generalize min cx (cx + m * dx) = w1 at a1 ⊢
  generalize max cx (cx + m * dx) = w2 at a2 ⊢
  generalize min cy (cy + m * dy) = w3 at a3 ⊢
  generalize max cy (cy + m * dy) = w4 at a4 ⊢
  generalize min (cx + cy) (cx + cy + m * (dx + dy)) = w5 at a5 ⊢
  generalize max (cx + cy) (cx + cy + m * (dx + dy)) = w6 at a6 ⊢
  generalize min (cx - cy) (cx - cy + m * (dx - dy)) = w7 at a7 ⊢
  generalize max (cx - cy) (cx - cy + m * (dx - dy)) = w8 at a8 ⊢
  generalize cx + j * dx = c1 at h a1 a2
  generalize cy + j * dy = c2 at h a3 a4
  generalize cx + cy + j * (dx + dy) = c3 at h a5 a6
  generalize cx - cy + j * (dx - dy) = c4 at h a7 a8
  obtain ⟨⟨p1, p2⟩, ⟨p3, p4⟩, ⟨p5, p6⟩, p7, p8⟩ := h
  exact ⟨⟨by omega, by omega⟩, ⟨by omega, by omega⟩, ⟨by omega, by omega⟩, by omega, by omega⟩
theorem way_zero {r B cx cy dx dy x y : Int} {k : Nat} (h : HoldP (swO r B cx cy (cx + 0 * dx) (cy + 0 * dy)) x y k) : HoldP (mkO r B (cx + 0 * dx) (cy + 0 * dy)) x y k := by
  rw [Int.zero_mul, Int.zero_mul, Int.add_zero, Int.add_zero] at h ⊢
  rw [hold_sw] at h
  rw [hold_mk]
  omega
set_option maxHeartbeats 4000000 in
theorem way_step {r B cx cy dx dy m x y : Int} {k : Nat} (hk : k < 4) (hd : Dir dx dy) (hm : 0 ≤ m) (h2 : 2 ≤ r) (hB : r < B) (hB2 : B < 2 * r) (h : HoldP (swO r B cx cy (cx + (m + 1) * dx) (cy + (m + 1) * dy)) x y k) :
    HoldP (swO r B cx cy (cx + m * dx) (cy + m * dy)) x y k ∨ HoldP (mkO r B (cx + (m + 1) * dx) (cy + (m + 1) * dy)) x y k := by
  rw [hold_sw] at h
  rw [hold_sw, hold_mk]
  generalize inX k = a at h ⊢
  generalize inY k = b at h ⊢
  rcases hd with ⟨rfl, rfl⟩ | ⟨rfl, rfl⟩ | ⟨rfl, rfl⟩ | ⟨rfl, rfl⟩ | ⟨rfl, rfl⟩ | ⟨rfl, rfl⟩ | ⟨rfl, rfl⟩ | ⟨rfl, rfl⟩
  · rw [Int.min_eq_left (show cx ≤ cx + (m + 1) * 1 by omega), Int.max_eq_right (show cx ≤ cx + (m + 1) * 1 by omega), Int.min_eq_left (show cy ≤ cy + (m + 1) * 0 by omega), Int.max_eq_right (show cy ≤ cy + (m + 1) * 0 by omega), Int.min_eq_left (show cx + cy ≤ cx + (m + 1) * 1 + (cy + (m + 1) * 0) by omega), Int.max_eq_right (show cx + cy ≤ cx + (m + 1) * 1 + (cy + (m + 1) * 0) by omega), Int.min_eq_left (show cx - cy ≤ cx + (m + 1) * 1 - (cy + (m + 1) * 0) by omega), Int.max_eq_right (show cx - cy ≤ cx + (m + 1) * 1 - (cy + (m + 1) * 0) by omega)] at h
    rw [Int.min_eq_left (show cx ≤ cx + m * 1 by omega), Int.max_eq_right (show cx ≤ cx + m * 1 by omega), Int.min_eq_left (show cy ≤ cy + m * 0 by omega), Int.max_eq_right (show cy ≤ cy + m * 0 by omega), Int.min_eq_left (show cx + cy ≤ cx + m * 1 + (cy + m * 0) by omega), Int.max_eq_right (show cx + cy ≤ cx + m * 1 + (cy + m * 0) by omega), Int.min_eq_left (show cx - cy ≤ cx + m * 1 - (cy + m * 0) by omega), Int.max_eq_right (show cx - cy ≤ cx + m * 1 - (cy + m * 0) by omega)]
    obtain ⟨⟨p1, p2⟩, ⟨p3, p4⟩, ⟨p5, p6⟩, p7, p8⟩ := h
    omega
  · rw [Int.min_eq_left (show cx ≤ cx + (m + 1) * 1 by omega), Int.max_eq_right (show cx ≤ cx + (m + 1) * 1 by omega), Int.min_eq_left (show cy ≤ cy + (m + 1) * 1 by omega), Int.max_eq_right (show cy ≤ cy + (m + 1) * 1 by omega), Int.min_eq_left (show cx + cy ≤ cx + (m + 1) * 1 + (cy + (m + 1) * 1) by omega), Int.max_eq_right (show cx + cy ≤ cx + (m + 1) * 1 + (cy + (m + 1) * 1) by omega), Int.min_eq_left (show cx - cy ≤ cx + (m + 1) * 1 - (cy + (m + 1) * 1) by omega), Int.max_eq_right (show cx - cy ≤ cx + (m + 1) * 1 - (cy + (m + 1) * 1) by omega)] at h
    rw [Int.min_eq_left (show cx ≤ cx + m * 1 by omega), Int.max_eq_right (show cx ≤ cx + m * 1 by omega), Int.min_eq_left (show cy ≤ cy + m * 1 by omega), Int.max_eq_right (show cy ≤ cy + m * 1 by omega), Int.min_eq_left (show cx + cy ≤ cx + m * 1 + (cy + m * 1) by omega), Int.max_eq_right (show cx + cy ≤ cx + m * 1 + (cy + m * 1) by omega), Int.min_eq_left (show cx - cy ≤ cx + m * 1 - (cy + m * 1) by omega), Int.max_eq_right (show cx - cy ≤ cx + m * 1 - (cy + m * 1) by omega)]
    obtain ⟨⟨p1, p2⟩, ⟨p3, p4⟩, ⟨p5, p6⟩, p7, p8⟩ := h
    omega
  · rw [Int.min_eq_left (show cx ≤ cx + (m + 1) * 0 by omega), Int.max_eq_right (show cx ≤ cx + (m + 1) * 0 by omega), Int.min_eq_left (show cy ≤ cy + (m + 1) * 1 by omega), Int.max_eq_right (show cy ≤ cy + (m + 1) * 1 by omega), Int.min_eq_left (show cx + cy ≤ cx + (m + 1) * 0 + (cy + (m + 1) * 1) by omega), Int.max_eq_right (show cx + cy ≤ cx + (m + 1) * 0 + (cy + (m + 1) * 1) by omega), Int.min_eq_right (show cx + (m + 1) * 0 - (cy + (m + 1) * 1) ≤ cx - cy by omega), Int.max_eq_left (show cx + (m + 1) * 0 - (cy + (m + 1) * 1) ≤ cx - cy by omega)] at h
    rw [Int.min_eq_left (show cx ≤ cx + m * 0 by omega), Int.max_eq_right (show cx ≤ cx + m * 0 by omega), Int.min_eq_left (show cy ≤ cy + m * 1 by omega), Int.max_eq_right (show cy ≤ cy + m * 1 by omega), Int.min_eq_left (show cx + cy ≤ cx + m * 0 + (cy + m * 1) by omega), Int.max_eq_right (show cx + cy ≤ cx + m * 0 + (cy + m * 1) by omega), Int.min_eq_right (show cx + m * 0 - (cy + m * 1) ≤ cx - cy by omega), Int.max_eq_left (show cx + m * 0 - (cy + m * 1) ≤ cx - cy by omega)]
    obtain ⟨⟨p1, p2⟩, ⟨p3, p4⟩, ⟨p5, p6⟩, p7, p8⟩ := h
    omega
  · rw [Int.min_eq_right (show cx + (m + 1) * -1 ≤ cx by omega), Int.max_eq_left (show cx + (m + 1) * -1 ≤ cx by omega), Int.min_eq_left (show cy ≤ cy + (m + 1) * 1 by omega), Int.max_eq_right (show cy ≤ cy + (m + 1) * 1 by omega), Int.min_eq_left (show cx + cy ≤ cx + (m + 1) * -1 + (cy + (m + 1) * 1) by omega), Int.max_eq_right (show cx + cy ≤ cx + (m + 1) * -1 + (cy + (m + 1) * 1) by omega), Int.min_eq_right (show cx + (m + 1) * -1 - (cy + (m + 1) * 1) ≤ cx - cy by omega), Int.max_eq_left (show cx + (m + 1) * -1 - (cy + (m + 1) * 1) ≤ cx - cy by omega)] at h
    rw [Int.min_eq_right (show cx + m * -1 ≤ cx by omega), Int.max_eq_left (show cx + m * -1 ≤ cx by omega), Int.min_eq_left (show cy ≤ cy + m * 1 by omega), Int.max_eq_right (show cy ≤ cy + m * 1 by omega), Int.min_eq_left (show cx + cy ≤ cx + m * -1 + (cy + m * 1) by omega), Int.max_eq_right (show cx + cy ≤ cx + m * -1 + (cy + m * 1) by omega), Int.min_eq_right (show cx + m * -1 - (cy + m * 1) ≤ cx - cy by omega), Int.max_eq_left (show cx + m * -1 - (cy + m * 1) ≤ cx - cy by omega)]
    obtain ⟨⟨p1, p2⟩, ⟨p3, p4⟩, ⟨p5, p6⟩, p7, p8⟩ := h
    omega
  · rw [Int.min_eq_right (show cx + (m + 1) * -1 ≤ cx by omega), Int.max_eq_left (show cx + (m + 1) * -1 ≤ cx by omega), Int.min_eq_left (show cy ≤ cy + (m + 1) * 0 by omega), Int.max_eq_right (show cy ≤ cy + (m + 1) * 0 by omega), Int.min_eq_right (show cx + (m + 1) * -1 + (cy + (m + 1) * 0) ≤ cx + cy by omega), Int.max_eq_left (show cx + (m + 1) * -1 + (cy + (m + 1) * 0) ≤ cx + cy by omega), Int.min_eq_right (show cx + (m + 1) * -1 - (cy + (m + 1) * 0) ≤ cx - cy by omega), Int.max_eq_left (show cx + (m + 1) * -1 - (cy + (m + 1) * 0) ≤ cx - cy by omega)] at h
    rw [Int.min_eq_right (show cx + m * -1 ≤ cx by omega), Int.max_eq_left (show cx + m * -1 ≤ cx by omega), Int.min_eq_left (show cy ≤ cy + m * 0 by omega), Int.max_eq_right (show cy ≤ cy + m * 0 by omega), Int.min_eq_right (show cx + m * -1 + (cy + m * 0) ≤ cx + cy by omega), Int.max_eq_left (show cx + m * -1 + (cy + m * 0) ≤ cx + cy by omega), Int.min_eq_right (show cx + m * -1 - (cy + m * 0) ≤ cx - cy by omega), Int.max_eq_left (show cx + m * -1 - (cy + m * 0) ≤ cx - cy by omega)]
    obtain ⟨⟨p1, p2⟩, ⟨p3, p4⟩, ⟨p5, p6⟩, p7, p8⟩ := h
    omega
  · rw [Int.min_eq_right (show cx + (m + 1) * -1 ≤ cx by omega), Int.max_eq_left (show cx + (m + 1) * -1 ≤ cx by omega), Int.min_eq_right (show cy + (m + 1) * -1 ≤ cy by omega), Int.max_eq_left (show cy + (m + 1) * -1 ≤ cy by omega), Int.min_eq_right (show cx + (m + 1) * -1 + (cy + (m + 1) * -1) ≤ cx + cy by omega), Int.max_eq_left (show cx + (m + 1) * -1 + (cy + (m + 1) * -1) ≤ cx + cy by omega), Int.min_eq_left (show cx - cy ≤ cx + (m + 1) * -1 - (cy + (m + 1) * -1) by omega), Int.max_eq_right (show cx - cy ≤ cx + (m + 1) * -1 - (cy + (m + 1) * -1) by omega)] at h
    rw [Int.min_eq_right (show cx + m * -1 ≤ cx by omega), Int.max_eq_left (show cx + m * -1 ≤ cx by omega), Int.min_eq_right (show cy + m * -1 ≤ cy by omega), Int.max_eq_left (show cy + m * -1 ≤ cy by omega), Int.min_eq_right (show cx + m * -1 + (cy + m * -1) ≤ cx + cy by omega), Int.max_eq_left (show cx + m * -1 + (cy + m * -1) ≤ cx + cy by omega), Int.min_eq_left (show cx - cy ≤ cx + m * -1 - (cy + m * -1) by omega), Int.max_eq_right (show cx - cy ≤ cx + m * -1 - (cy + m * -1) by omega)]
    obtain ⟨⟨p1, p2⟩, ⟨p3, p4⟩, ⟨p5, p6⟩, p7, p8⟩ := h
    omega
  · rw [Int.min_eq_left (show cx ≤ cx + (m + 1) * 0 by omega), Int.max_eq_right (show cx ≤ cx + (m + 1) * 0 by omega), Int.min_eq_right (show cy + (m + 1) * -1 ≤ cy by omega), Int.max_eq_left (show cy + (m + 1) * -1 ≤ cy by omega), Int.min_eq_right (show cx + (m + 1) * 0 + (cy + (m + 1) * -1) ≤ cx + cy by omega), Int.max_eq_left (show cx + (m + 1) * 0 + (cy + (m + 1) * -1) ≤ cx + cy by omega), Int.min_eq_left (show cx - cy ≤ cx + (m + 1) * 0 - (cy + (m + 1) * -1) by omega), Int.max_eq_right (show cx - cy ≤ cx + (m + 1) * 0 - (cy + (m + 1) * -1) by omega)] at h
    rw [Int.min_eq_left (show cx ≤ cx + m * 0 by omega), Int.max_eq_right (show cx ≤ cx + m * 0 by omega), Int.min_eq_right (show cy + m * -1 ≤ cy by omega), Int.max_eq_left (show cy + m * -1 ≤ cy by omega), Int.min_eq_right (show cx + m * 0 + (cy + m * -1) ≤ cx + cy by omega), Int.max_eq_left (show cx + m * 0 + (cy + m * -1) ≤ cx + cy by omega), Int.min_eq_left (show cx - cy ≤ cx + m * 0 - (cy + m * -1) by omega), Int.max_eq_right (show cx - cy ≤ cx + m * 0 - (cy + m * -1) by omega)]
    obtain ⟨⟨p1, p2⟩, ⟨p3, p4⟩, ⟨p5, p6⟩, p7, p8⟩ := h
    omega
  · rw [Int.min_eq_left (show cx ≤ cx + (m + 1) * 1 by omega), Int.max_eq_right (show cx ≤ cx + (m + 1) * 1 by omega), Int.min_eq_right (show cy + (m + 1) * -1 ≤ cy by omega), Int.max_eq_left (show cy + (m + 1) * -1 ≤ cy by omega), Int.min_eq_left (show cx + cy ≤ cx + (m + 1) * 1 + (cy + (m + 1) * -1) by omega), Int.max_eq_right (show cx + cy ≤ cx + (m + 1) * 1 + (cy + (m + 1) * -1) by omega), Int.min_eq_left (show cx - cy ≤ cx + (m + 1) * 1 - (cy + (m + 1) * -1) by omega), Int.max_eq_right (show cx - cy ≤ cx + (m + 1) * 1 - (cy + (m + 1) * -1) by omega)] at h
    rw [Int.min_eq_left (show cx ≤ cx + m * 1 by omega), Int.max_eq_right (show cx ≤ cx + m * 1 by omega), Int.min_eq_right (show cy + m * -1 ≤ cy by omega), Int.max_eq_left (show cy + m * -1 ≤ cy by omega), Int.min_eq_left (show cx + cy ≤ cx + m * 1 + (cy + m * -1) by omega), Int.max_eq_right (show cx + cy ≤ cx + m * 1 + (cy + m * -1) by omega), Int.min_eq_left (show cx - cy ≤ cx + m * 1 - (cy + m * -1) by omega), Int.max_eq_right (show cx - cy ≤ cx + m * 1 - (cy + m * -1) by omega)]
    obtain ⟨⟨p1, p2⟩, ⟨p3, p4⟩, ⟨p5, p6⟩, p7, p8⟩ := h
    omega
theorem way_on {r B cx cy dx dy x y : Int} {k : Nat} (hk : k < 4) (hd : Dir dx dy) (h2 : 2 ≤ r) (hB : r < B) (hB2 : B < 2 * r) : ∀ m : Nat, HoldP (swO r B cx cy (cx + (m : Int) * dx) (cy + (m : Int) * dy)) x y k → ∃ j : Nat, j ≤ m ∧ HoldP (mkO r B (cx + (j : Int) * dx) (cy + (j : Int) * dy)) x y k
  | 0, h => ⟨0, Nat.le_refl _, way_zero h⟩
  | m + 1, h => by
    rw [show ((m + 1 : Nat) : Int) = (m : Int) + 1 by omega] at h
    rcases way_step hk hd (by omega) h2 hB hB2 h with g | g
    · obtain ⟨j, hj, e⟩ := way_on hk hd h2 hB hB2 m g
      exact ⟨j, by omega, e⟩
    · exact ⟨m + 1, Nat.le_refl _, by rw [show ((m + 1 : Nat) : Int) = (m : Int) + 1 by omega]; exact g⟩
/-! ### by the law: three points within -/
def ab (i : Int) : Int := if i < 0 then -i else i
def endsK (k : Nat) : List (Int × Int) := match k with
  | 0 => [(1, 0), (1, 1)]
  | 1 => [(0, 1), (1, 1)]
  | 2 => [(0, 0), (0, 1)]
  | _ => [(0, 0), (1, 0)]
def triQ (x y : Int) (k : Nat) : List (Int × Int) := (2 * x + 1, 2 * y + 1) :: (endsK k).map fun p => (2 * (x + p.1), 2 * (y + p.2))
def InMk (B x y : Int) (k : Nat) : Bool := (triQ x y k).all fun p => decide (ab p.1 + ab p.2 ≤ 2 * B)
theorem ab_le {a b c : Int} : ab a + ab b ≤ c ↔ a + b ≤ c ∧ a - b ≤ c ∧ b - a ≤ c ∧ -a - b ≤ c := by
  unfold ab
  split <;> split <;> omega
set_option maxHeartbeats 2000000 in
theorem mk_iff {r B cx cy x y : Int} {k : Nat} (hk : k < 4) (h2 : 2 ≤ r) (hB : r < B) (hB2 : B < 2 * r) : HoldP (mkO r B cx cy) x y k ↔ (-r ≤ x - cx ∧ x - cx < r) ∧ (-r ≤ y - cy ∧ y - cy < r) ∧ InMk B (x - cx) (y - cy) k = true := by
  rw [hold_mk]
  rcases four hk with rfl | rfl | rfl | rfl <;>
    simp only [InMk, triQ, endsK, List.map_cons, List.map_nil, List.all_cons, List.all_nil, Bool.and_true, Bool.and_eq_true, decide_eq_true_eq, ab_le, inX, inY, List.getD_cons_zero, List.getD_cons_succ] <;> omega
/-! ### a swept octo is one -/
set_option maxHeartbeats 2000000 in
theorem sw_met {r B x0 y0 x1 y1 : Int} (h2 : 2 ≤ r) (hB : r < B) (hB2 : B < 2 * r) : ∃ w e s n a b c d, swO r B x0 y0 x1 y1 = [w, e, s, n, a, b, c, d] ∧ Met w e s n a b c d := by
  obtain ⟨w1, ew1, lw1, kw1, ow1⟩ : ∃ w, w = min x0 x1 ∧ w ≤ x0 ∧ w ≤ x1 ∧ (w = x0 ∨ w = x1) := ⟨_, rfl, by omega, by omega, by omega⟩
  obtain ⟨w2, ew2, lw2, kw2, ow2⟩ : ∃ w, w = max x0 x1 ∧ x0 ≤ w ∧ x1 ≤ w ∧ (w = x0 ∨ w = x1) := ⟨_, rfl, by omega, by omega, by omega⟩
  obtain ⟨w3, ew3, lw3, kw3, ow3⟩ : ∃ w, w = min y0 y1 ∧ w ≤ y0 ∧ w ≤ y1 ∧ (w = y0 ∨ w = y1) := ⟨_, rfl, by omega, by omega, by omega⟩
  obtain ⟨w4, ew4, lw4, kw4, ow4⟩ : ∃ w, w = max y0 y1 ∧ y0 ≤ w ∧ y1 ≤ w ∧ (w = y0 ∨ w = y1) := ⟨_, rfl, by omega, by omega, by omega⟩
  obtain ⟨w5, ew5, lw5, kw5, ow5⟩ : ∃ w, w = min (x0 + y0) (x1 + y1) ∧ w ≤ x0 + y0 ∧ w ≤ x1 + y1 ∧ (w = x0 + y0 ∨ w = x1 + y1) := ⟨_, rfl, by omega, by omega, by omega⟩
  obtain ⟨w6, ew6, lw6, kw6, ow6⟩ : ∃ w, w = max (x0 + y0) (x1 + y1) ∧ x0 + y0 ≤ w ∧ x1 + y1 ≤ w ∧ (w = x0 + y0 ∨ w = x1 + y1) := ⟨_, rfl, by omega, by omega, by omega⟩
  obtain ⟨w7, ew7, lw7, kw7, ow7⟩ : ∃ w, w = min (x0 - y0) (x1 - y1) ∧ w ≤ x0 - y0 ∧ w ≤ x1 - y1 ∧ (w = x0 - y0 ∨ w = x1 - y1) := ⟨_, rfl, by omega, by omega, by omega⟩
  obtain ⟨w8, ew8, lw8, kw8, ow8⟩ : ∃ w, w = max (x0 - y0) (x1 - y1) ∧ x0 - y0 ≤ w ∧ x1 - y1 ≤ w ∧ (w = x0 - y0 ∨ w = x1 - y1) := ⟨_, rfl, by omega, by omega, by omega⟩
  unfold swO
  rw [← ew1, ← ew2, ← ew3, ← ew4, ← ew5, ← ew6, ← ew7, ← ew8]
  clear ew1 ew2 ew3 ew4 ew5 ew6 ew7 ew8
  refine ⟨_, _, _, _, _, _, _, _, rfl, ⟨by omega, ?_, ?_⟩, ⟨by omega, ?_, ?_⟩, ⟨by omega, ?_, ?_⟩, by omega, ?_, ?_⟩
  · rcases ow1 with h | h
    · exact ⟨y0, by omega, by omega, by omega, by omega, by omega, by omega⟩
    · exact ⟨y1, by omega, by omega, by omega, by omega, by omega, by omega⟩
  · rcases ow2 with h | h
    · exact ⟨y0, by omega, by omega, by omega, by omega, by omega, by omega⟩
    · exact ⟨y1, by omega, by omega, by omega, by omega, by omega, by omega⟩
  · rcases ow3 with h | h
    · exact ⟨x0, by omega, by omega, by omega, by omega, by omega, by omega⟩
    · exact ⟨x1, by omega, by omega, by omega, by omega, by omega, by omega⟩
  · rcases ow4 with h | h
    · exact ⟨x0, by omega, by omega, by omega, by omega, by omega, by omega⟩
    · exact ⟨x1, by omega, by omega, by omega, by omega, by omega, by omega⟩
  · rcases ow5 with h | h
    · exact ⟨x0 - y0, by omega, by omega, by omega, by omega, by omega, by omega⟩
    · exact ⟨x1 - y1, by omega, by omega, by omega, by omega, by omega, by omega⟩
  · rcases ow6 with h | h
    · exact ⟨x0 - y0, by omega, by omega, by omega, by omega, by omega, by omega⟩
    · exact ⟨x1 - y1, by omega, by omega, by omega, by omega, by omega, by omega⟩
  · rcases ow7 with h | h
    · exact ⟨x0 + y0, by omega, by omega, by omega, by omega, by omega, by omega⟩
    · exact ⟨x1 + y1, by omega, by omega, by omega, by omega, by omega, by omega⟩
  · rcases ow8 with h | h
    · exact ⟨x0 + y0, by omega, by omega, by omega, by omega, by omega, by omega⟩
    · exact ⟨x1 + y1, by omega, by omega, by omega, by omega, by omega, by omega⟩
/-! ### sorted rows are alike -/
def qI (q : Int × Int × Int) : List Int := [q.1, q.2.1, q.2.2]
def dQ (l : List Int) : Int × Int × Int := (l.getD 0 0, l.getD 1 0, l.getD 2 0)
theorem dQ_qI (q : Int × Int × Int) : dQ (qI q) = q := rfl
def ltQ (q r : Int × Int × Int) : Bool := ZS.ltL (qI q) (qI r)
theorem ltQ_iff {a b c d e f : Int} : ltQ (a, b, c) (d, e, f) = true ↔ a < d ∨ (a = d ∧ (b < e ∨ (b = e ∧ c < f))) := by
  show ZS.ltL [a, b, c] [d, e, f] = true ↔ _
  simp only [ZS.ltL]
  by_cases h1 : a = d
  · rw [if_pos h1]
    by_cases h2 : b = e
    · rw [if_pos h2]
      by_cases h3 : c = f
      · rw [if_pos h3]; simp; omega
      · rw [if_neg h3, decide_eq_true_eq]; omega
    · rw [if_neg h2, decide_eq_true_eq]; omega
  · rw [if_neg h1, decide_eq_true_eq]; omega
theorem uniqQ : ∀ {A B : List (Int × Int × Int)}, A.Pairwise (fun x y => ltQ x y = true) → B.Pairwise (fun x y => ltQ y x = false) → B.Nodup → (∀ q, q ∈ A ↔ q ∈ B) → A = B
  | [], [], _, _, _, _ => rfl
  | [], b :: t, _, _, _, h => absurd ((h b).mpr List.mem_cons_self) List.not_mem_nil
  | a :: s, [], _, _, _, h => absurd ((h a).mp List.mem_cons_self) List.not_mem_nil
  | a :: s, b :: t, hA, hB, hN, h => by
    have cA := List.pairwise_cons.mp hA
    have cB := List.pairwise_cons.mp hB
    have cN := List.pairwise_cons.mp hN
    have irr : ∀ q, ltQ q q = false := fun q => ZS.ltL_irr _
    have e : a = b := by
      rcases List.mem_cons.mp ((h a).mp List.mem_cons_self) with e | e
      · exact e
      · rcases List.mem_cons.mp ((h b).mpr List.mem_cons_self) with e' | e'
        · exact e'.symm
        · have h1 := cA.1 b e'
          have h2 := cB.1 a e
          rw [h1] at h2
          cases h2
    subst e
    rw [uniqQ cA.2 cB.2 cN.2 fun q => ?_]
    constructor
    · intro hq
      rcases List.mem_cons.mp ((h q).mp (List.mem_cons_of_mem _ hq)) with e | e
      · have := cA.1 q hq
        rw [e, irr] at this
        cases this
      · exact e
    · intro hq
      rcases List.mem_cons.mp ((h q).mpr (List.mem_cons_of_mem _ hq)) with e | e
      · exact absurd e.symm (cN.1 q hq)
      · exact e
theorem iv_lt (a b : Int) : (iv a b).Pairwise fun x y => x < y := by
  unfold iv
  rw [List.pairwise_map]
  exact List.pairwise_lt_range.imp fun {x y} h => by omega
theorem quarts_up (o : List Int) : (quarts o).Pairwise fun x y => ltQ x y = true := by
  unfold quarts colQ cellQ
  refine List.pairwise_flatMap.mpr ⟨fun x _ => List.pairwise_flatMap.mpr ⟨fun y _ => ?_, (iv_lt _ _).imp fun {y z} h p hp q hq => ?_⟩, (iv_lt _ _).imp fun {y z} h p hp q hq => ?_⟩
  · rw [List.pairwise_map]
    refine List.Pairwise.filter _ (List.pairwise_lt_range.imp fun {i j} h => ?_)
    rw [ltQ_iff]
    omega
  · obtain ⟨i, _, rfl⟩ := List.mem_map.mp hp
    obtain ⟨j, _, rfl⟩ := List.mem_map.mp hq
    rw [ltQ_iff]
    omega
  · obtain ⟨u, _, hp⟩ := List.mem_flatMap.mp hp
    obtain ⟨v, _, hq⟩ := List.mem_flatMap.mp hq
    obtain ⟨i, _, rfl⟩ := List.mem_map.mp hp
    obtain ⟨j, _, rfl⟩ := List.mem_map.mp hq
    rw [ltQ_iff]
    omega
end Mp

namespace L2
open PySem PySem.Spec PyProof.Rows
theorem for_dict {o : Obj} {d : Addr} {kvs : List (List Key × V)} {g : TG} {tb : TS} {D : Ends} {σ : St} {H : Hp} (Pv : Nat → St → Hp → Prop) (h0 : Pv 0 σ H) (hl : ∀ i σ H, i ≤ kvs.length → Pv i σ H → H d = some (.frz o (.dT kvs)))
    (hs : ∀ i k x b σ H, kvs[i]? = some (k, x) → H b = some (.tup (k.map kV)) → Pv i σ H → g (.ref b) σ H fun σ2 H2 => tb { D with nx := Pv (i + 1), ct := Pv (i + 1), bk := D.nx } σ2 H2) (hd : ∀ σ H, Pv kvs.length σ H → D.nx σ H) :
    ∃ W : Nat → Nat → St → Hp → Prop, (∃ m, W 0 m σ H) ∧ ∀ i m σ H, W i m σ H →
      ((Itd o d).stop i H ∧ D.nx σ H) ∨ ((Itd o d).go i H ∧ ∃ N : St → Hp → Prop, (∀ σ' H', N σ' H' → ∃ m', m' < m ∧ W (i + 1) m' σ' H') ∧ ∀ x H', (Itd o d).yld i H x H' → g x σ H' fun σ2 H2 => tb { D with nx := N, ct := N, bk := D.nx } σ2 H2) := by
  refine ⟨fun i m σ H => m = kvs.length - i ∧ i ≤ kvs.length ∧ Pv i σ H, ⟨kvs.length, by simp, Nat.zero_le _, h0⟩, ?_⟩
  rintro i m σ H ⟨rfl, hi, p⟩
  have q := hl i σ H hi p
  by_cases hlt : i < kvs.length
  · refine .inr ⟨⟨kvs, q, hlt⟩, Pv (i + 1), fun σ' H' p' => ⟨kvs.length - (i + 1), by omega, rfl, hlt, p'⟩, fun x H' y => ?_⟩
    obtain ⟨rfl, k, u, b, e1, rfl, e3⟩ := itd_yld q y
    exact hs i k u b σ _ e1 e3 p
  · have e : i = kvs.length := by omega
    subst e
    exact .inl ⟨⟨kvs, q, Nat.le_refl _⟩, hd σ H p⟩
end L2
namespace Mp
open PySem L2
theorem mem_quarts {o : List Int} {q : Int × Int × Int} : q ∈ quarts o ↔ ∃ k : Nat, k < 4 ∧ q.2.2 = (k : Int) ∧ HoldP o q.1 q.2.1 k := by
  unfold quarts colQ cellQ
  constructor
  · intro h
    obtain ⟨x, _, h⟩ := List.mem_flatMap.mp h
    obtain ⟨y, _, h⟩ := List.mem_flatMap.mp h
    obtain ⟨k, hk, rfl⟩ := List.mem_map.mp h
    obtain ⟨h1, h2⟩ := List.mem_filter.mp hk
    exact ⟨k, List.mem_range.mp h1, rfl, of_decide_eq_true h2⟩
  · rintro ⟨k, hk, e, h⟩
    obtain ⟨x, y, z⟩ := q
    simp only at e h
    subst e
    have hx := h.1
    have hy := h.2.1
    have bx : 1 ≤ inX k ∧ inX k ≤ 3 := by rcases four hk with rfl | rfl | rfl | rfl <;> decide
    have bY : 1 ≤ inY k ∧ inY k ≤ 3 := by rcases four hk with rfl | rfl | rfl | rfl <;> decide
    exact List.mem_flatMap.mpr ⟨x, mem_iv.mpr ⟨by omega, by omega⟩, List.mem_flatMap.mpr ⟨y, mem_iv.mpr ⟨by omega, by omega⟩, List.mem_map.mpr ⟨k, List.mem_filter.mpr ⟨List.mem_range.mpr hk, decide_eq_true h⟩, rfl⟩⟩⟩
def kQ (q : Int × Int × Int) : List Key := kI [q.1, q.2.1, q.2.2]
theorem kQ_inj {q r : Int × Int × Int} (h : kQ q = kQ r) : q = r := by
  have := kI_inj h
  obtain ⟨a, b, c⟩ := q
  obtain ⟨d, e, f⟩ := r
  simp only [List.cons.injEq, and_true] at this
  obtain ⟨rfl, rfl, rfl⟩ := this
  rfl
theorem kQ_V (q : Int × Int × Int) : (kQ q).map kV = [.int q.1, .int q.2.1, .int q.2.2] := kI_V _
/-- a dict whose keys are these quarters -/
structure DQ (kvs : List (List Key × V)) (S : Int × Int × Int → Prop) : Prop where
  has : ∀ q, (valV kvs (kQ q)).isSome = true ↔ S q
  keys : ∀ kv ∈ kvs, ∃ q, kv.1 = kQ q
theorem DQ.nil : DQ [] (fun _ => False) := ⟨fun q => ⟨fun h => by simp [valV] at h, fun h => h.elim⟩, fun kv h => absurd h List.not_mem_nil⟩
theorem DQ.put {kvs : List (List Key × V)} {S : Int × Int × Int → Prop} (h : DQ kvs S) (q : Int × Int × Int) (v : V) : DQ (putK kvs (kQ q) v) (fun r => S r ∨ r = q) := by
  refine ⟨fun r => ?_, fun kv hkv => ?_⟩
  · rw [valV_put]
    by_cases e : kQ r = kQ q
    · rw [if_pos e]
      exact ⟨fun _ => .inr (kQ_inj e), fun _ => rfl⟩
    · rw [if_neg e, h.has]
      exact ⟨.inl, fun z => z.elim id fun z => absurd (by rw [z]) e⟩
  · unfold putK at hkv
    split at hkv
    · obtain ⟨p, hp, rfl⟩ := List.mem_map.mp hkv
      split
      · exact h.keys p hp
      · exact h.keys p hp
    · rcases List.mem_append.mp hkv with z | z
      · exact h.keys kv z
      · rw [List.mem_singleton.mp z]
        exact ⟨q, rfl⟩
theorem DQ.congr {kvs : List (List Key × V)} {S S' : Int × Int × Int → Prop} (h : DQ kvs S) (e : ∀ q, S q ↔ S' q) : DQ kvs S' := ⟨fun q => (h.has q).trans (e q), h.keys⟩
theorem DQ.mem {kvs : List (List Key × V)} {S : Int × Int × Int → Prop} (h : DQ kvs S) {k : List Key} {x : V} (hk : (k, x) ∈ kvs) : ∃ q, k = kQ q ∧ S q := by
  obtain ⟨q, e⟩ := h.keys _ hk
  refine ⟨q, e, (h.has q).mp ?_⟩
  rw [← valV_any]
  exact List.any_eq_true.mpr ⟨(k, x), hk, decide_eq_true e⟩
/-- the quarters of such a dict, as a list -/
theorem DQ.list {kvs : List (List Key × V)} {S : Int × Int × Int → Prop} (h : DQ kvs S) (nd : (kvs.map (·.1)).Nodup) : ∃ qs : List (Int × Int × Int), kvs.map (·.1) = qs.map kQ ∧ qs.Nodup ∧ ∀ q, q ∈ qs ↔ S q := by
  have mk : ∀ l : List (List Key × V), (∀ kv ∈ l, ∃ q, kv.1 = kQ q) → ∃ qs : List (Int × Int × Int), l.map (·.1) = qs.map kQ := by
    intro l
    induction l with
    | nil => exact fun _ => ⟨[], rfl⟩
    | cons a t ih =>
      intro hl
      obtain ⟨qs, e⟩ := ih fun kv hkv => hl kv (.tail _ hkv)
      obtain ⟨q, eq⟩ := hl a (.head _)
      exact ⟨q :: qs, by rw [List.map_cons, List.map_cons, e, eq]⟩
  obtain ⟨qs, e⟩ := mk kvs h.keys
  refine ⟨qs, e, ?_, fun q => ?_⟩
  · rw [e] at nd
    exact (List.pairwise_map.mp nd).imp fun {a b} hab z => hab (by rw [z])
  · rw [← h.has, ← valV_any]
    constructor
    · intro hq
      have : kQ q ∈ kvs.map (·.1) := by rw [e]; exact List.mem_map.mpr ⟨q, hq, rfl⟩
      obtain ⟨kv, hkv, ek⟩ := List.mem_map.mp this
      exact List.any_eq_true.mpr ⟨kv, hkv, decide_eq_true ek⟩
    · intro hq
      obtain ⟨kv, hkv, ek⟩ := List.any_eq_true.mp hq
      have : kQ q ∈ qs.map kQ := by rw [← e, ← of_decide_eq_true ek]; exact List.mem_map.mpr ⟨kv, hkv, rfl⟩
      obtain ⟨r, hr, er⟩ := List.mem_map.mp this
      rw [← kQ_inj er]
      exact hr
def spSwept (K : PySem.W.Frag) : Sp := fun vs H Q _ => ∃ (b b1 b2 : Bool) (a a1 a2 : Addr) (n0 n1 n2 n3 n4 x0 y0 x1 y1 : Int), vs = [.ref a, .ref a1, .ref a2] ∧ SqG b K H a ([n0, n1, n2, n3, n4].map V.int) ∧ SqG b1 K H a1 [.int x0, .int y0] ∧ SqG b2 K H a2 [.int x1, .int y1] ∧
  ∀ (p : Addr) (H' : Hp), Same H H' → SqT K H' p ((swO n0 (n0 + n1) x0 y0 x1 y1).map V.int) → Q (.ref p) H'
def spInMark (K : PySem.W.Frag) : Sp := fun vs H Q _ => ∃ (a : Addr) (n0 n1 n2 n3 n4 x y : Int) (k : Nat), vs = [.ref a, .int x, .int y, .int k] ∧ SqT K H a ([n0, n1, n2, n3, n4].map V.int) ∧ k < 4 ∧ ∀ H', Same H H' → Q (.bl (InMk (n0 + n1) x y k)) H'
def spLMark (K : PySem.W.Frag) : Sp := fun vs H Q _ => ∃ (a a' : Addr) (n0 n1 n2 n3 n4 cx cy : Int), vs = [.ref a, .ref a'] ∧ SqT K H a ([n0, n1, n2, n3, n4].map V.int) ∧ SqT K H a' [.int cx, .int cy] ∧ 2 ≤ n0 ∧ n0 ≤ 6 ∧ 1 ≤ n1 ∧ n1 < n0 ∧
  ∀ (p : Addr) (kvs : List (List Key × V)) (H' : Hp), H p = none → Same H H' → H' p = some (.dT kvs) → DQ kvs (fun q => q ∈ quarts (mkO n0 (n0 + n1) cx cy)) → kvs.length ≤ 600 → Q (.ref p) H'
section
variable {P : Program} {w : World} {K : PySem.W.Frag} {mg : Str → Option Value} {base : Heap}
theorem scSw : FnScope ["tool", "one", "other"] ["tool", "one", "other"] (defScope s_swept) := ⟨rfl, rfl, rfl, by decide +kernel, rfl, by decide +kernel, by decide +kernel⟩
set_option maxHeartbeats 1000000 in
theorem ok_swept {f : Addr} {fd : FuncData} (F : Fun K "swept" "swept" s_swept f fd) (G_added : Cal P w K mg base 1 "added" ["one", "other"] (spAdded K)) (G_octo_of : Cal P w K mg base 1 "octo_of" ["corners"] (spOctoOf K)) (G_mark_of : Cal P w K mg base 3 "mark_of" ["tool", "corner"] (spMark K)) : FnOk P w K mg base CX0 4 f fd ["tool", "one", "other"] (spSwept K) := by
  refine F.ok scSw (fun vs H Q E h => ?_) (fun cdv A outer s H vs Q E hr h => ?_)
  · obtain ⟨b, b1, b2, a, a1, a2, n0, n1, n2, n3, n4, x0, y0, x1, y1, rfl, _⟩ := h
    rfl
  obtain ⟨b, b1, b2, a, a1, a2, n0, n1, n2, n3, n4, x0, y0, x1, y1, rfl, hs, h1, h2, q⟩ := h
  have sc := @scSw
  refine ⟨_, (@pss_one _ _ _ (@ps_ret _ _ _ _ (@pe_def _ _ _ _ _ _ _ _ _ _ _ G_added hr (by rfl) (@pa_cons _ _ _ _ _ (@pe_def _ _ _ _ _ _ _ _ _ _ _ G_mark_of hr (by rfl) (@pa_cons _ _ _ _ _ (pv 0) (@pa_cons _ _ _ _ _ (@pe_tupA _ _ _ _ _ (@pa_cons _ _ _ _ _ pe_int (@pa_cons _ _ _ _ _ pe_int pa_nil (by rfl)) (by rfl))) pa_nil (by rfl)) (by rfl)) (by omega) (by decide) (by rfl) (by rfl)) (@pa_cons _ _ _ _ _ (@pe_def _ _ _ _ _ _ _ _ _ _ _ G_octo_of hr (by rfl) (@pa_cons _ _ _ _ _ (@pe_lstA _ _ _ _ (@pa_cons _ _ _ _ _ (pv 1) (@pa_cons _ _ _ _ _ (pv 2) pa_nil (by rfl)) (by rfl))) pa_nil (by rfl)) (by omega) (by decide) (by rfl) (by rfl)) pa_nil (by rfl)) (by rfl)) (by omega) (by decide) (by rfl) (by rfl)))), ?_⟩
  refine ⟨_, rfl, (by show 2 ≤ sizeLine; decide), fun t1 H1 ht1 g1 e1 => ⟨b, true, a, t1, n0, n1, n2, n3, n4, 0, 0, rfl, SqG.same g1 hs, SqT.of e1, fun p2 H2 g2 s2 => ?_⟩⟩
  refine ⟨_, rfl, _, rfl, (by show 2 ≤ sizeLine; decide), fun l H3 hl g3 e3 => ?_⟩
  have G3 := g1.trans' (g2.trans' g3)
  refine ⟨false, l, _, [(x0, y0), (x1, y1)], rfl, SqL.of e3, ⟨rfl, fun i p v ep ev => ?_⟩, by simp, (by show 2 ≤ 100000; decide), fun o p4 H4 oc g4 s4 => ?_⟩
  · match i, ep, ev with
    | 0, ep, ev => cases ep; cases ev; exact ⟨b1, a1, rfl, SqG.same G3 h1⟩
    | 1, ep, ev => cases ep; cases ev; exact ⟨b2, a2, rfl, SqG.same G3 h2⟩
  have eo := octo_two oc
  subst eo
  refine ⟨true, true, p2, p4, [0 - n0, 0 + n0, 0 - n0, 0 + n0, 0 + 0 - (n0 + n1), 0 + 0 + (n0 + n1), 0 - 0 - (n0 + n1), 0 - 0 + (n0 + n1)], _, rfl, SqT.same (g3.trans' g4) s2, s4, rfl, (by show 8 ≤ 100000; decide), fun p5 H5 g5 s5 => q p5 H5 (G3.trans' (g4.trans' g5)) ?_⟩
  have ee : addL [0 - n0, 0 + n0, 0 - n0, 0 + n0, 0 + 0 - (n0 + n1), 0 + 0 + (n0 + n1), 0 - 0 - (n0 + n1), 0 - 0 + (n0 + n1)] [min x0 x1, max x0 x1, min y0 y1, max y0 y1, min (x0 + y0) (x1 + y1), max (x0 + y0) (x1 + y1), min (x0 - y0) (x1 - y1), max (x0 - y0) (x1 - y1)] = swO n0 (n0 + n1) x0 y0 x1 y1 := by
    unfold addL swO
    simp only [List.zipWith_cons_cons, List.zipWith_nil_left, Int.zero_sub, Int.zero_add, Int.add_zero, Int.sub_zero, Int.sub_self]
  rw [← ee]
  exact s5
theorem scIm : FnScope ["_law_tool_here", "_law_x", "_law_y", "_law_side", "_law_ends", "_law_points"] ["_law_tool_here", "_law_x", "_law_y", "_law_side"] (defScope s_in_mark) := ⟨rfl, rfl, rfl, by decide +kernel, rfl, by decide +kernel, by decide +kernel⟩
set_option maxHeartbeats 4000000 in
theorem ok_in_mark {f : Addr} {fd : FuncData} (F : Fun K "_law_in_mark" "_law_in_mark" s_in_mark f fd) (T : Txt mg) : FnOk P w K mg base CX0 1 f fd ["_law_tool_here", "_law_x", "_law_y", "_law_side"] (spInMark K) := by
  refine F.ok scIm (fun vs H Q E h => ?_) (fun cdv A outer s H vs Q E hr h => ?_)
  · obtain ⟨a, n0, n1, n2, n3, n4, x, y, k, rfl, _⟩ := h
    rfl
  obtain ⟨a, n0, n1, n2, n3, n4, x, y, k, rfl, hs, hk, q⟩ := h
  have sc := @scIm
  have nd1 : (["_law_one", "_law_other", "_law_x", "_law_y"] : List Str).Nodup := by decide +kernel
  have nd2 : (["_law_one", "_law_other", "_law_tool_here"] : List Str).Nodup := by decide +kernel
  refine ⟨_, (@pss_cons _ _ _ _ _ (@ps_set _ _ 4 _ _ _ _ sc.nd rfl (Or.inl rfl) (@pe_ix _ _ _ _ _ _ _ ix_list (@pe_lstA _ _ _ _ (@pa_cons _ _ _ _ _ (@pe_lstA _ _ _ _ (@pa_cons _ _ _ _ _ (@pe_tupA _ _ _ _ _ (@pa_cons _ _ _ _ _ pe_int (@pa_cons _ _ _ _ _ pe_int pa_nil (by rfl)) (by rfl))) (@pa_cons _ _ _ _ _ (@pe_tupA _ _ _ _ _ (@pa_cons _ _ _ _ _ pe_int (@pa_cons _ _ _ _ _ pe_int pa_nil (by rfl)) (by rfl))) pa_nil (by rfl)) (by rfl))) (@pa_cons _ _ _ _ _ (@pe_lstA _ _ _ _ (@pa_cons _ _ _ _ _ (@pe_tupA _ _ _ _ _ (@pa_cons _ _ _ _ _ pe_int (@pa_cons _ _ _ _ _ pe_int pa_nil (by rfl)) (by rfl))) (@pa_cons _ _ _ _ _ (@pe_tupA _ _ _ _ _ (@pa_cons _ _ _ _ _ pe_int (@pa_cons _ _ _ _ _ pe_int pa_nil (by rfl)) (by rfl))) pa_nil (by rfl)) (by rfl))) (@pa_cons _ _ _ _ _ (@pe_lstA _ _ _ _ (@pa_cons _ _ _ _ _ (@pe_tupA _ _ _ _ _ (@pa_cons _ _ _ _ _ pe_int (@pa_cons _ _ _ _ _ pe_int pa_nil (by rfl)) (by rfl))) (@pa_cons _ _ _ _ _ (@pe_tupA _ _ _ _ _ (@pa_cons _ _ _ _ _ pe_int (@pa_cons _ _ _ _ _ pe_int pa_nil (by rfl)) (by rfl))) pa_nil (by rfl)) (by rfl))) (@pa_cons _ _ _ _ _ (@pe_lstA _ _ _ _ (@pa_cons _ _ _ _ _ (@pe_tupA _ _ _ _ _ (@pa_cons _ _ _ _ _ pe_int (@pa_cons _ _ _ _ _ pe_int pa_nil (by rfl)) (by rfl))) (@pa_cons _ _ _ _ _ (@pe_tupA _ _ _ _ _ (@pa_cons _ _ _ _ _ pe_int (@pa_cons _ _ _ _ _ pe_int pa_nil (by rfl)) (by rfl))) pa_nil (by rfl)) (by rfl))) pa_nil (by rfl)) (by rfl)) (by rfl)) (by rfl))) (pv 3) (fun _ _ => rfl)) (by rfl) (Or.inl rfl)) (@pss_cons _ _ _ _ _ (@ps_set _ _ 5 _ _ _ _ sc.nd rfl (Or.inl rfl) (@pe_op _ _ _ _ _ _ _ _ op_catA (@pe_lstA _ _ _ _ (@pa_cons _ _ _ _ _ (@pe_tupA _ _ _ _ _ (@pa_cons _ _ _ _ _ (@pe_op _ _ _ _ _ _ _ _ op_add (@pe_op _ _ _ _ _ _ _ _ op_mul pe_int (pv 1)) pe_int) (@pa_cons _ _ _ _ _ (@pe_op _ _ _ _ _ _ _ _ op_add (@pe_op _ _ _ _ _ _ _ _ op_mul pe_int (pv 2)) pe_int) pa_nil (by rfl)) (by rfl))) pa_nil (by rfl))) (@pe_compF _ _ _ _ sc ["_law_one", "_law_other", "_law_x", "_law_y"] [none, none, some 1, some 2] nd1 _ _ _ _ _ _ _ _ _ _ (by decide +kernel) (@pi_seq _ _ _ _ (pv 4)) (fun _ _ _ => (pg_tup rfl (pgs_cons (pg_name (i := 0) nd1 rfl (Or.inl rfl) (Or.inr rfl)) (pgs_cons (pg_name (i := 1) nd1 rfl (Or.inl rfl) (Or.inr rfl)) pgs_nil)))) (fun _ _ _ => pts_nil) (fun _ _ _ => (@pe_tupA _ _ _ _ _ (@pa_cons _ _ _ _ _ (@pe_op _ _ _ _ _ _ _ _ op_mul pe_int (@pe_op _ _ _ _ _ _ _ _ op_add (pv 2) (pv 0))) (@pa_cons _ _ _ _ _ (@pe_op _ _ _ _ _ _ _ _ op_mul pe_int (@pe_op _ _ _ _ _ _ _ _ op_add (pv 3) (pv 1))) pa_nil (by rfl)) (by rfl)))) (by rfl) (by rfl) (by rfl) (by intro _; rfl))) (by rfl) (Or.inl rfl)) (@pss_one _ _ _ (@ps_ret _ _ _ _ (@pe_callB _ _ _ _ _ _ _ _ _ (call_all rfl) (by rfl) T.all (by decide +kernel) (@pa_cons _ _ _ _ _ (@pe_compF _ _ _ _ sc ["_law_one", "_law_other", "_law_tool_here"] [none, none, some 0] nd2 _ _ _ _ _ _ _ _ _ _ (by decide +kernel) (@pi_seq _ _ _ _ (pv 5)) (fun _ _ _ => (pg_tup rfl (pgs_cons (pg_name (i := 0) nd2 rfl (Or.inl rfl) (Or.inr rfl)) (pgs_cons (pg_name (i := 1) nd2 rfl (Or.inl rfl) (Or.inr rfl)) pgs_nil)))) (fun _ _ _ => pts_nil) (fun _ _ _ => (pe_cmpR op_le (@pe_op _ _ _ _ _ _ _ _ op_add (@pe_callB _ _ _ _ _ _ _ _ _ call_abs (by rfl) T.abs (by decide +kernel) (@pa_cons _ _ _ _ _ (pv 0) pa_nil (by rfl)) (by decide) (by decide) (by rfl) (by rfl)) (@pe_callB _ _ _ _ _ _ _ _ _ call_abs (by rfl) T.abs (by decide +kernel) (@pa_cons _ _ _ _ _ (pv 1) pa_nil (by rfl)) (by decide) (by decide) (by rfl) (by rfl))) (@pe_op _ _ _ _ _ _ _ _ op_mul pe_int (@pe_op _ _ _ _ _ _ _ _ op_add (@pe_ix _ _ _ _ _ _ _ ix_tup (pv 2) pe_int (fun _ _ => rfl)) (@pe_ix _ _ _ _ _ _ _ ix_tup (pv 2) pe_int (fun _ _ => rfl)))) (nomark _))) (by rfl) (by rfl) (by rfl) (by intro _; rfl)) pa_nil (by rfl)) (by decide) (by decide) (by rfl) (by rfl)))))), ?_⟩
  refine ⟨(by show 2 ≤ sizeLine; decide), fun t1 G1 _ f1 d1 => ⟨(by show 2 ≤ sizeLine; decide), fun t2 G2 _ f2 d2 => ⟨(by show 2 ≤ sizeLine; decide), fun l1 G3 _ f3 d3 => ?_⟩⟩⟩
  refine ⟨(by show 2 ≤ sizeLine; decide), fun t3 G4 _ f4 d4 => ⟨(by show 2 ≤ sizeLine; decide), fun t4 G5 _ f5 d5 => ⟨(by show 2 ≤ sizeLine; decide), fun l2 G6 _ f6 d6 => ?_⟩⟩⟩
  refine ⟨(by show 2 ≤ sizeLine; decide), fun t5 G7 _ f7 d7 => ⟨(by show 2 ≤ sizeLine; decide), fun t6 G8 _ f8 d8 => ⟨(by show 2 ≤ sizeLine; decide), fun l3' G9 _ f9 d9 => ?_⟩⟩⟩
  refine ⟨(by show 2 ≤ sizeLine; decide), fun t7 G10 _ f10 d10 => ⟨(by show 2 ≤ sizeLine; decide), fun t8 G11 _ f11 d11 => ⟨(by show 2 ≤ sizeLine; decide), fun l4 G12 _ f12 d12 => ?_⟩⟩⟩
  refine ⟨(by show 4 ≤ sizeLine; decide), fun lo G13 _ f13 d13 => ?_⟩
  have h11 := f12.trans' f13
  have h10 := f11.trans' h11
  have h9 := f10.trans' h10
  have h8 := f9.trans' h9
  have h7 := f8.trans' h8
  have h6 := f7.trans' h7
  have h5 := f6.trans' h6
  have h4 := f5.trans' h5
  have h3 := f4.trans' h4
  have h2 := f3.trans' h3
  have h1 := f2.trans' h2
  have F13 := f1.trans' h1
  obtain ⟨lk, ts, ek, elk, hps⟩ : ∃ (lk : Addr) (ts : List V), atI ([.ref l1, .ref l2, .ref l3', .ref l4] : List V) (k : Int) = some (.ref lk) ∧ G13 lk = some (.lst ts) ∧ HasL K G13 ((endsK k).map ptD) ts := by
    rcases four hk with rfl | rfl | rfl | rfl
    · exact ⟨l1, _, atI_nat (j := 0) rfl, h3 _ _ d3, hasL_cons (has_pt (SqT.of (h1 _ _ d1))) (hasL_cons (has_pt (SqT.of (h2 _ _ d2))) hasL_nil)⟩
    · exact ⟨l2, _, atI_nat (j := 1) rfl, h6 _ _ d6, hasL_cons (has_pt (SqT.of (h4 _ _ d4))) (hasL_cons (has_pt (SqT.of (h5 _ _ d5))) hasL_nil)⟩
    · exact ⟨l3', _, atI_nat (j := 2) rfl, h9 _ _ d9, hasL_cons (has_pt (SqT.of (h7 _ _ d7))) (hasL_cons (has_pt (SqT.of (h8 _ _ d8))) hasL_nil)⟩
    · exact ⟨l4, _, atI_nat (j := 3) rfl, f13 _ _ d12, hasL_cons (has_pt (SqT.of (h10 _ _ d10))) (hasL_cons (has_pt (SqT.of (h11 _ _ d11))) hasL_nil)⟩
  have le : (endsK k).length = 2 := by rcases four hk with rfl | rfl | rfl | rfl <;> rfl
  clear h1 h2 h3 h4 h5 h6 h7 h8 h9 h10 h11 d1 d2 d3 d4 d5 d6 d7 d8 d9 d10 d11 d12 f1 f2 f3 f4 f5 f6 f7 f8 f9 f10 f11 f12 f13
  refine ⟨_, rfl, lo, _, _, _, rfl, rfl, SqL.of d13, ek, ?_⟩
  refine ⟨_, rfl, _, _, rfl, rfl, .inl (by decide), _, _, rfl, rfl, _, rfl, _, _, rfl, rfl, .inl (by decide), _, _, rfl, rfl, (by show 2 ≤ sizeLine; decide), fun tp H1 _ g1 e1 => ?_⟩
  refine ⟨(by show 1 ≤ sizeLine; decide), fun lp H2 _ g2 e2 => ?_⟩
  have elk2 := (g1.trans' g2) _ _ elk
  have hps2 := HasL.same (g1.trans' g2) hps
  refine ⟨_, rfl, false, lk, ts, rfl, SqL.of elk2, ?_⟩
  refine comp_pairs (K := K) (frs := [some 1, some 2]) (endsK k) (b := false) (SqL.of elk2) hps2 (by rw [le]; decide) (fun j => ptD (2 * (x + ((endsK k).getD j (0, 0)).1), 2 * (y + ((endsK k).getD j (0, 0)).2))) (fun j => ptD_t _) ?_ ?_
  · intro s3 H3' fp j H' hj sm Ap hA
    refine ⟨_, rfl, _, rfl, _, _, rfl, rfl, _, _, rfl, rfl, .inl (by decide), _, rfl, _, rfl, _, _, rfl, rfl, _, _, rfl, rfl, .inl (by decide), (by show 2 ≤ sizeLine; decide), fun pt H5 hpt g5 e5 => ?_⟩
    exact hA _ H5 g5 (has_pt (SqT.of e5))
  intro pz ac2 H3 hpz g3 e3 l3
  have em : (List.range (endsK k).length).map (fun j => ptD (2 * (x + ((endsK k).getD j (0, 0)).1), 2 * (y + ((endsK k).getD j (0, 0)).2))) = ((endsK k).map fun p => (2 * (x + p.1), 2 * (y + p.2))).map ptD := by
    rw [List.map_map]
    exact map_getD (endsK k) (0, 0) (fun p => ptD (2 * (x + p.1), 2 * (y + p.2)))
  rw [em] at l3
  have z3 : ac2.length = 2 := by
    have := l3.len
    rw [List.length_map, List.length_map, le] at this
    exact this.symm
  refine ⟨lp, pz, _, ac2, rfl, rfl, g3 _ _ e2, e3, (by show 1 + ac2.length ≤ 2 ^ 24; omega), fun pp H4 _ g4 e4 => ?_⟩
  have l4 : HasL K H4 ((triQ x y k).map ptD) (.ref tp :: ac2) := hasL_cons (has_pt (SqT.of ((g2.trans' (g3.trans' g4)) _ _ e1))) (HasL.same g4 l3)
  have G4 : Same H H4 := F13.trans' (g1.trans' (g2.trans' (g3.trans' g4)))
  have ht := SqT.same G4 hs
  have lt : (triQ x y k).length = 3 := by show ((endsK k).map _).length + 1 = 3; rw [List.length_map, le]
  refine ⟨_, rfl, false, pp, _, rfl, SqL.of e4, ?_⟩
  refine comp_pairs (K := K) (frs := [some 0]) (triQ x y k) (b := false) (SqL.of e4) l4 (by rw [lt]; decide) (fun j => .bl (decide (ab ((triQ x y k).getD j (0, 0)).1 + ab ((triQ x y k).getD j (0, 0)).2 ≤ 2 * (n0 + n1)))) (fun j => by simp [tupO]) ?_ ?_
  · intro s3 H3' fp j H' hj sm Ap hA
    have hs' := SqT.same sm ht
    exact ⟨_, rfl, _, rfl, _, rfl, _, rfl, _, _, rfl, rfl, _, rfl, a, _, _, _, rfl, rfl, hs', atI_nat (j := 0) rfl, _, rfl, a, _, _, _, rfl, rfl, hs', atI_nat (j := 1) rfl, _, _, rfl, rfl, _, _, rfl, rfl, .inl (by decide), _, _, rfl, rfl, hA _ H' .rfl' (by rw [Has]; rfl)⟩
  intro pb acb H5 hpb g5 e5 l5
  have ea := hasL_boolsOf l5
  subst ea
  refine ⟨pb, _, rfl, SqL.of e5, ?_⟩
  have eb : ((List.range (triQ x y k).length).map fun j => decide (ab ((triQ x y k).getD j (0, 0)).1 + ab ((triQ x y k).getD j (0, 0)).2 ≤ 2 * (n0 + n1))).all id = InMk (n0 + n1) x y k := by
    rw [map_getD (triQ x y k) (0, 0) (fun p => decide (ab p.1 + ab p.2 ≤ 2 * (n0 + n1))), List.all_map]
    rfl
  rw [eb]
  exact q H5 (G4.trans' g5)
end
end Mp

namespace Mp
open PySem L2
def cellM (B cx cy x y : Int) : List (Int × Int × Int) := ((List.range 4).filter fun k => InMk B x y k).map fun k : Nat => (cx + x, cy + y, (k : Int))
def colM (r B cx cy x : Int) : List (Int × Int × Int) := (iv (-r) r).flatMap (cellM B cx cy x)
def allM (r B cx cy : Int) : List (Int × Int × Int) := (iv (-r) r).flatMap (colM r B cx cy)
theorem mem_allM {r B cx cy : Int} (h2 : 2 ≤ r) (hB : r < B) (hB2 : B < 2 * r) {q : Int × Int × Int} : q ∈ allM r B cx cy ↔ q ∈ quarts (mkO r B cx cy) := by
  rw [mem_quarts]
  unfold allM colM cellM
  constructor
  · intro h
    obtain ⟨x, hx, h⟩ := List.mem_flatMap.mp h
    obtain ⟨y, hy, h⟩ := List.mem_flatMap.mp h
    obtain ⟨k, hk, rfl⟩ := List.mem_map.mp h
    obtain ⟨k1, k2⟩ := List.mem_filter.mp hk
    have hk4 := List.mem_range.mp k1
    have hx := mem_iv.mp hx
    have hy := mem_iv.mp hy
    refine ⟨k, hk4, rfl, (mk_iff hk4 h2 hB hB2).mpr ?_⟩
    show (-r ≤ cx + x - cx ∧ cx + x - cx < r) ∧ (-r ≤ cy + y - cy ∧ cy + y - cy < r) ∧ InMk B (cx + x - cx) (cy + y - cy) k = true
    rw [show cx + x - cx = x by omega, show cy + y - cy = y by omega]
    exact ⟨hx, hy, k2⟩
  · rintro ⟨k, hk, e, h⟩
    obtain ⟨x, y, z⟩ := q
    simp only at e h
    subst e
    obtain ⟨h1, h2', h3⟩ := (mk_iff hk h2 hB hB2).mp h
    exact List.mem_flatMap.mpr ⟨x - cx, mem_iv.mpr h1, List.mem_flatMap.mpr ⟨y - cy, mem_iv.mpr h2', List.mem_map.mpr ⟨k, List.mem_filter.mpr ⟨List.mem_range.mpr hk, h3⟩, by rw [show cx + (x - cx) = x by omega, show cy + (y - cy) = y by omega]⟩⟩⟩
section
variable {P : Program} {w : World} {K : PySem.W.Frag} {mg : Str → Option Value} {base : Heap}
theorem scMl : FnScope ["_law_tool_here", "_law_corner", "_law_found", "_law_x", "_law_y", "_law_side"] ["_law_tool_here", "_law_corner"] (defScope s_mark) := ⟨rfl, rfl, rfl, by decide +kernel, rfl, by decide +kernel, by decide +kernel⟩
set_option maxHeartbeats 4000000 in
theorem ok_lmark {f : Addr} {fd : FuncData} (F : Fun K "_law_mark" "_law_mark" s_mark f fd) (T : Txt mg) (G_in_mark : Cal P w K mg base 1 "_law_in_mark" ["_law_tool_here", "_law_x", "_law_y", "_law_side"] (spInMark K)) : FnOk P w K mg base CX0 2 f fd ["_law_tool_here", "_law_corner"] (spLMark K) := by
  refine F.ok scMl (fun vs H Q E h => ?_) (fun cdv A outer s H vs Q E hr h => ?_)
  · obtain ⟨a, a', n0, n1, n2, n3, n4, cx, cy, rfl, _⟩ := h
    rfl
  obtain ⟨a, a', n0, n1, n2, n3, n4, cx, cy, rfl, hs, hc, m0, m1, m2, m3, q⟩ := h
  have sc := @scMl
  have hu := hu_of hr
  refine ⟨_, (@pss_cons _ _ _ _ _ (@ps_set _ _ 2 _ _ _ _ sc.nd rfl (Or.inl rfl) pe_dnewT (by rfl) (Or.inl rfl)) (@pss_cons _ _ _ _ _ (@ps_for _ _ _ _ _ _ _ _ PassesOwn.never rfl (pi_range2 (by rfl) T.range (@pa_cons _ _ _ _ _ (@pe_un _ _ _ _ _ _ un_neg (@pe_ix _ _ _ _ _ _ _ ix_tup (pv 0) pe_int (fun _ _ => rfl))) (@pa_cons _ _ _ _ _ (@pe_ix _ _ _ _ _ _ _ ix_tup (pv 0) pe_int (fun _ _ => rfl)) pa_nil (by rfl)) (by rfl))) (pg_name (i := 3) sc.nd rfl (Or.inl rfl)) (@pss_one _ _ _ (@ps_for _ _ _ _ _ _ _ _ PassesOwn.never rfl (pi_range2 (by rfl) T.range (@pa_cons _ _ _ _ _ (@pe_un _ _ _ _ _ _ un_neg (@pe_ix _ _ _ _ _ _ _ ix_tup (pv 0) pe_int (fun _ _ => rfl))) (@pa_cons _ _ _ _ _ (@pe_ix _ _ _ _ _ _ _ ix_tup (pv 0) pe_int (fun _ _ => rfl)) pa_nil (by rfl)) (by rfl))) (pg_name (i := 4) sc.nd rfl (Or.inl rfl)) (@pss_one _ _ _ (@ps_for _ _ _ _ _ _ _ _ PassesOwn.never rfl (pi_range1 (by rfl) T.range (@pa_cons _ _ _ _ _ pe_int pa_nil (by rfl))) (pg_name (i := 5) sc.nd rfl (Or.inl rfl)) (@pss_one _ _ _ (@ps_if _ _ _ _ _ _ _ _ (pt_val (@pe_def _ _ _ _ _ _ _ _ _ _ _ G_in_mark hr (by rfl) (@pa_cons _ _ _ _ _ (pv 0) (@pa_cons _ _ _ _ _ (pv 3) (@pa_cons _ _ _ _ _ (pv 4) (@pa_cons _ _ _ _ _ (pv 5) pa_nil (by rfl)) (by rfl)) (by rfl)) (by rfl)) (by omega) (by decide) (by rfl) (by rfl))) (@pss_one _ _ _ (ps_dput hu (pv 2) (@pe_tupA _ _ _ _ _ (@pa_cons _ _ _ _ _ (@pe_op _ _ _ _ _ _ _ _ op_add (@pe_ix _ _ _ _ _ _ _ ix_tup (pv 1) pe_int (fun _ _ => rfl)) (pv 3)) (@pa_cons _ _ _ _ _ (@pe_op _ _ _ _ _ _ _ _ op_add (@pe_ix _ _ _ _ _ _ _ ix_tup (pv 1) pe_int (fun _ _ => rfl)) (pv 4)) (@pa_cons _ _ _ _ _ (pv 5) pa_nil (by rfl)) (by rfl)) (by rfl))) pe_bl rfl)) pss_nil)) (by intro _; rfl))) (by intro _; rfl))) (by intro _; rfl)) (@pss_one _ _ _ (@ps_ret _ _ _ _ (pv 2))))), ?_⟩
  intro p0 hp0
  have g0 := same_new hp0 (.dT [])
  have d0 : (upd H p0 (.dT [])) p0 = some (.dT []) := upd_same
  revert g0 d0
  generalize upd H p0 (.dT []) = H0
  intro g0 d0
  obtain ⟨B, eB⟩ : ∃ B, B = n0 + n1 := ⟨_, rfl⟩
  have hs0 := SqT.same g0 hs
  refine ⟨_, rfl, a, _, _, _, rfl, rfl, hs0, atI_nat (j := 0) rfl, _, rfl, _, rfl, a, _, _, _, rfl, rfl, hs0, atI_nat (j := 0) rfl, -n0, n0, rfl, ⟨by omega, by omega, by omega, by omega⟩, ?_⟩
  refine for_range (lo := -n0) (n := (n0 - -n0).toNat) (fun i σ H3 => ∃ (v3 v4 v5 : Option V) (kvs : List (List Key × V)), σ = [some (.ref a), some (.ref a'), some (.ref p0), v3, v4, v5] ∧ Same H H3 ∧ H3 p0 = some (.dT kvs) ∧ DQ kvs (fun q => q ∈ ((iv (-n0) n0).take i).flatMap (colM n0 B cx cy)) ∧ kvs.length ≤ 48 * i)
    ⟨none, none, none, [], rfl, g0, d0, DQ.nil.congr fun q => by simp, Nat.zero_le _⟩ ?_ ?_
  · rintro i σ H3 hi ⟨v3, v4, v5, kvs, rfl, g3, e3, dq3, z3⟩
    have hs3 := SqT.same g3 hs
    refine ⟨_, rfl, a, _, _, _, rfl, rfl, hs3, atI_nat (j := 0) rfl, _, rfl, _, rfl, a, _, _, _, rfl, rfl, hs3, atI_nat (j := 0) rfl, -n0, n0, rfl, ⟨by omega, by omega, by omega, by omega⟩, ?_⟩
    refine for_range (lo := -n0) (n := (n0 - -n0).toNat) (fun j σ H4 => ∃ (v4 v5 : Option V) (kv4 : List (List Key × V)), σ = [some (.ref a), some (.ref a'), some (.ref p0), some (.int (-n0 + (i : Int))), v4, v5] ∧ Same H H4 ∧ H4 p0 = some (.dT kv4) ∧ DQ kv4 (fun q => q ∈ ((iv (-n0) n0).take i).flatMap (colM n0 B cx cy) ++ ((iv (-n0) n0).take j).flatMap (cellM B cx cy (-n0 + (i : Int)))) ∧ kv4.length ≤ 48 * i + 4 * j)
      ⟨v4, v5, kvs, rfl, g3, e3, dq3.congr fun q => by simp, by omega⟩ ?_ ?_
    · rintro j σ H4 hj ⟨v4, v5, kv4, rfl, g4, e4, dq4, z4⟩
      refine ⟨4, rfl, by decide, by decide, ?_⟩
      refine for_range (lo := 0) (n := (4 : Int).toNat) (fun k σ H5 => ∃ (v5 : Option V) (kv5 : List (List Key × V)), σ = [some (.ref a), some (.ref a'), some (.ref p0), some (.int (-n0 + (i : Int))), some (.int (-n0 + (j : Int))), v5] ∧ Same H H5 ∧ H5 p0 = some (.dT kv5) ∧ DQ kv5 (fun q => q ∈ (((iv (-n0) n0).take i).flatMap (colM n0 B cx cy) ++ ((iv (-n0) n0).take j).flatMap (cellM B cx cy (-n0 + (i : Int)))) ++ ((List.range k).filter fun k => InMk B (-n0 + (i : Int)) (-n0 + (j : Int)) k).map fun k : Nat => (cx + (-n0 + (i : Int)), cy + (-n0 + (j : Int)), (k : Int))) ∧ kv5.length ≤ 48 * i + 4 * j + k)
        ⟨v5, kv4, rfl, g4, e4, dq4.congr fun q => by simp, by omega⟩ ?_ ?_
      · rintro k σ H5 hk ⟨v5, kv5, rfl, g5, e5, dq5, z5⟩
        have hk4 : k < 4 := hk
        have zk : (0 + (k : Int)) = (k : Int) := Int.zero_add _
        refine ⟨_, rfl, _, rfl, _, rfl, _, rfl, a, n0, n1, n2, n3, n4, -n0 + (i : Int), -n0 + (j : Int), k, by rw [zk]; rfl, SqT.same g5 hs, hk4, fun H6 g6 => ⟨_, rfl, iteB (fun hb => ?_) (fun hb => ?_)⟩⟩
        · have hc6 := SqT.same (g5.trans' g6) hc
          refine ⟨_, rfl, _, rfl, a', _, _, _, rfl, rfl, hc6, atI_nat (j := 0) rfl, _, rfl, _, _, rfl, rfl, _, rfl, a', _, _, _, rfl, rfl, hc6, atI_nat (j := 1) rfl, _, rfl, _, _, rfl, rfl, _, rfl, (by show 3 ≤ sizeLine; decide), fun pk H7 hpk g7 e7 => ?_⟩
          rw [zk] at e7
          have e57 := (g6.trans' g7) _ _ e5
          refine ⟨p0, _, rfl, DPut.t (k := kQ (cx + (-n0 + (i : Int)), cy + (-n0 + (j : Int)), (k : Int))) e57 (by rw [kQ_V]; exact e7) (by show kv5.length < 2 ^ 24; omega), ?_⟩
          refine ⟨_, _, rfl, fun b u e => ?_, upd_same, (dq5.put _ _).congr fun r => ?_, ?_⟩
          · rw [upd_ne (ne_of_none e hp0)]
            exact (g6.trans' g7) _ _ (g5 _ _ e)
          · rw [filter_succN, if_pos (by rw [eB]; exact hb), List.map_append, ← List.append_assoc]
            simp only [List.mem_append, List.map_cons, List.map_nil, List.mem_singleton]
          · have := length_putK kv5 (kQ (cx + (-n0 + (i : Int)), cy + (-n0 + (j : Int)), (k : Int))) (.bl true)
            omega
        · refine ⟨_, kv5, rfl, g5.trans' g6, g6 _ _ e5, dq5.congr fun r => ?_, by omega⟩
          rw [filter_succN, if_neg (by rw [eB, hb]; simp), List.append_nil]
      · rintro σ H5 ⟨v5, kv5, rfl, g5, e5, dq5, z5⟩
        refine ⟨_, _, kv5, rfl, g5, e5, dq5.congr fun r => ?_, by have : (4 : Int).toNat = 4 := rfl; omega⟩
        rw [take_iv _ _ _ hj, ← List.append_assoc]
        exact Iff.rfl
    · rintro σ H4 ⟨v4, v5, kv4, rfl, g4, e4, dq4, z4⟩
      refine ⟨_, _, _, kv4, rfl, g4, e4, dq4.congr fun r => ?_, by omega⟩
      rw [take_iv_all, take_iv _ _ _ hi]
      exact Iff.rfl
  · rintro σ H3 ⟨v3, v4, v5, kvs, rfl, g3, e3, dq3, z3⟩
    refine ⟨_, rfl, q p0 kvs H3 hp0 g3 e3 (dq3.congr fun r => ?_) (by omega)⟩
    rw [take_iv_all, eB]
    exact mem_allM m0 (by omega) (by omega)
end
end Mp

namespace Mp
open PySem L2
def Fit (o : List Int) : Prop := o.length = 8 ∧ (o.getD 1 0 - o.getD 0 0 ≤ 100 ∧ o.getD 3 0 - o.getD 2 0 ≤ 100) ∧ ∀ i, i < 8 → -(2 ^ 38) < o.getD i 0 ∧ o.getD i 0 < 2 ^ 38
theorem Fit.fits {o : List Int} (h : Fit o) : Fits o := ⟨h.1, ⟨by have := h.2.1.1; omega, by have := h.2.1.2; omega⟩, fun i hi => by have := h.2.2 i hi; omega⟩
theorem Fit.few {o : List Int} (h : Fit o) : (quarts o).length ≤ 40000 := by
  have hc : ∀ x, (colQ o x (iv (o.getD 2 0) (o.getD 3 0))).length ≤ 400 := fun x => by
    have := flat_len (f := fun y => cellQ o x y) (n := 4) (fun y => cellQ_len o x y) (iv (o.getD 2 0) (o.getD 3 0))
    rw [iv_len] at this
    have w := h.2.1.2
    show (List.flatMap (fun y => cellQ o x y) _).length ≤ 400
    omega
  have := flat_len (f := fun x => colQ o x (iv (o.getD 2 0) (o.getD 3 0))) (n := 400) hc (iv (o.getD 0 0) (o.getD 1 0))
  rw [iv_len] at this
  have w := h.2.1.1
  unfold quarts
  omega
theorem gdL_qs : ∀ qs : List (Int × Int × Int), gdL (qs.map qD) = true
  | [] => by rw [List.map_nil, gdL]
  | q :: r => by
    rw [List.map_cons, gdL, gdL_qs r]
    have e : gd (qD q) = true := gd_tup (by show 3 ≤ 100000; decide)
    rw [e]
    rfl
theorem gd_qs {qs : List (Int × Int × Int)} (h : qs.length ≤ 100000) : gd (.lst (qs.map qD)) = true := by
  rw [gd, gdL_qs, decide_eq_true (by rw [List.length_map]; exact h)]
  rfl
theorem dptL_qs : ∀ qs : List (Int × Int × Int), dptL (qs.map qD) ≤ 1
  | [] => by rw [List.map_nil, dptL]; omega
  | p :: r => by
    rw [List.map_cons, dptL]
    have h := dptL_qs r
    have e : dpt (qD p) = 1 := by rw [qD, dpt, dptL_ints]
    omega
theorem dpt_qs (qs : List (Int × Int × Int)) : dpt (.lst (qs.map qD)) < 3 := by
  rw [dpt]
  have := dptL_qs qs
  omega
theorem has_qs {K : PySem.W.Frag} {H : Hp} {p : Addr} {qs : List (Int × Int × Int)} {acc : List V} (h : H p = some (.lst acc)) (k : HasL K H (qs.map qD) acc) : Has K H (.lst (qs.map qD)) (.ref p) := by
  rw [Has]
  exact ⟨p, _, rfl, SqL.of h, k⟩
def oD (o : List Int) : Dt := .tup (di o)
end Mp
namespace Mp
open PySem L2
theorem rows_of {K : PySem.W.Frag} {H : Hp} : ∀ {bs : List Addr} {kvs : List (List Key × V)} {qs : List (Int × Int × Int)}, Paired (fun (b : Addr) (p : List Key × V) => H b = some (.tup (p.1.map kV))) bs kvs → kvs.map (·.1) = qs.map kQ → RowsV K H (bs.map V.ref) (qs.map qI)
  | _, _, [], .nil, _ => .nil
  | _, _, _ :: _, .nil, e => by simp at e
  | _, _, [], .cons _ _, e => by simp at e
  | _, _, q :: qs, .cons h t, e => by
    rw [List.map_cons, List.map_cons, List.cons.injEq] at e
    refine .cons ⟨by simp [qI], _, rfl, SqT.of ?_⟩ (rows_of t e.2)
    rw [h, e.1, kQ_V]
    rfl
theorem rows_hasL {K : PySem.W.Frag} {H : Hp} : ∀ {zs : List V} {qs : List (Int × Int × Int)}, RowsV K H zs (qs.map qI) → HasL K H (qs.map qD) zs
  | _, [], .nil => hasL_nil
  | _, q :: qs, .cons ⟨_, b, e, h⟩ t => by
    subst e
    exact hasL_cons (has_tupI (ns := qI q) h) (rows_hasL t)
theorem sorted_is {K : PySem.W.Frag} {H : Hp} {zs : List V} {ls : List (List Int)} {qs : List (Int × Int × Int)} {o : List Int} (rz : RowsV K H zs ls) (pm : ls.Perm (qs.map qI)) (so : ls.Pairwise fun x y => ZS.ltL y x = false) (nd : qs.Nodup) (mem : ∀ q, q ∈ qs ↔ q ∈ quarts o) : HasL K H ((quarts o).map qD) zs := by
  have back : ∀ l ∈ ls, qI (dQ l) = l := fun l hl => by
    obtain ⟨q, _, rfl⟩ := List.mem_map.mp (pm.mem_iff.mp hl)
    rfl
  have pq : (ls.map dQ).Perm qs := by
    have := pm.map dQ
    rw [List.map_map, show (dQ ∘ qI) = id from rfl, List.map_id] at this
    exact this
  have el : ls = (ls.map dQ).map qI := by
    rw [List.map_map]
    conv => lhs; rw [← List.map_id ls]
    exact List.map_congr_left fun l hl => (back l hl).symm
  have up : (ls.map dQ).Pairwise fun x y => ltQ y x = false := by
    rw [List.pairwise_map]
    refine List.Pairwise.imp_of_mem (fun {x y} hx hy h => ?_) so
    show ZS.ltL (qI (dQ y)) (qI (dQ x)) = false
    rw [back x hx, back y hy]
    exact h
  have e := uniqQ (quarts_up o) up (pq.nodup_iff.mpr nd) fun q => (mem q).symm.trans pq.mem_iff.symm
  rw [el, ← e] at rz
  exact rows_hasL rz
theorem row8 {K : PySem.W.Frag} {b : Bool} {a : Addr} {H : Hp} {o : List Int} (h : SqG b K H a (o.map V.int)) (h8 : o.length = 8) : Row K H (.ref a) (di o) := ⟨b, a, _, rfl, h, hasL_ints _, by unfold di; rw [List.length_map, h8]; decide⟩
theorem gd_two {a b : Dt} (ha : gd a = true) (hb : gd b = true) : gd (.lst [a, b]) = true := by
  rw [gd, gdL, gdL, gdL, ha, hb]
  rfl
theorem dpt_two {a b : Dt} {n : Nat} (ha : dpt a < n) (hb : dpt b < n) : dpt (.lst [a, b]) < n + 1 := by
  rw [dpt, dptL, dptL, dptL]
  omega
theorem has_two {K : PySem.W.Frag} {H : Hp} {p : Addr} {a b : Dt} {x y : V} (h : H p = some (.lst [x, y])) (ha : Has K H a x) (hb : Has K H b y) : Has K H (.lst [a, b]) (.ref p) := by
  rw [Has]
  exact ⟨p, _, rfl, SqL.of h, hasL_cons ha (hasL_cons hb hasL_nil)⟩
theorem pickI (a b : Int) (k : Bool) : atI [V.int a, V.int b] (if k = true then 1 else 0) = some (.int (if k = true then b else a)) := by cases k <;> rfl
/-- the eight steps -/
structure Stp (H : Hp) (ls : Addr) (xs : List V) : Prop where
  l : H ls = some (.lst xs)
  s : ∀ r : Int, 0 ≤ r → r < 8 → ∃ t dx dy, atI xs r = some (.ref t) ∧ H t = some (.tup [.int dx, .int dy]) ∧ Dir dx dy
theorem Stp.same {H H' : Hp} {ls : Addr} {xs : List V} (h : Stp H ls xs) (g : Same H H') : Stp H' ls xs := ⟨g _ _ h.l, fun r h0 h1 => let ⟨t, dx, dy, e1, e2, e3⟩ := h.s r h0 h1; ⟨t, dx, dy, e1, g _ _ e2, e3⟩⟩
theorem Stp.kp {H H' : Hp} {ls st c : Addr} {xs : List V} {cs : List Int} {t : Int} (h : Stp H ls xs) (S : StAt H st c cs t) (k : Kp st c H H') (n1 : ls ≠ st) (n2 : ls ≠ c) : Stp H' ls xs := ⟨k _ _ h.l n1 n2, fun r h0 h1 => let ⟨t, dx, dy, e1, e2, e3⟩ := h.s r h0 h1; ⟨t, dx, dy, e1, S.t k _ _ e2 rfl, e3⟩⟩
theorem fit_mk {r B cx cy : Int} (h1 : 2 ≤ r ∧ r ≤ 6) (h2 : r < B ∧ B < 2 * r) (hx : -45 ≤ cx ∧ cx ≤ 65) (hy : -45 ≤ cy ∧ cy ≤ 65) : Fits (mkO r B cx cy) := by
  refine ⟨rfl, ⟨by show cx + r - (cx - r) ≤ 1000; omega, by show cy + r - (cy - r) ≤ 1000; omega⟩, fun j hj => ?_⟩
  match j, hj with
  | 0, _ => show -(2 ^ 40) < cx - r ∧ cx - r < 2 ^ 40; omega
  | 1, _ => show -(2 ^ 40) < cx + r ∧ cx + r < 2 ^ 40; omega
  | 2, _ => show -(2 ^ 40) < cy - r ∧ cy - r < 2 ^ 40; omega
  | 3, _ => show -(2 ^ 40) < cy + r ∧ cy + r < 2 ^ 40; omega
  | 4, _ => show -(2 ^ 40) < cx + cy - B ∧ cx + cy - B < 2 ^ 40; omega
  | 5, _ => show -(2 ^ 40) < cx + cy + B ∧ cx + cy + B < 2 ^ 40; omega
  | 6, _ => show -(2 ^ 40) < cx - cy - B ∧ cx - cy - B < 2 ^ 40; omega
  | 7, _ => show -(2 ^ 40) < cx - cy + B ∧ cx - cy + B < 2 ^ 40; omega
theorem fit_sw {r B x0 y0 x1 y1 : Int} (h1 : 2 ≤ r ∧ r ≤ 6) (h2 : r < B ∧ B < 2 * r) (hx : -45 ≤ x0 ∧ x0 ≤ 65) (hy : -45 ≤ y0 ∧ y0 ≤ 65) (hx1 : -30 ≤ x1 - x0 ∧ x1 - x0 ≤ 30) (hy1 : -30 ≤ y1 - y0 ∧ y1 - y0 ≤ 30) : Fit (swO r B x0 y0 x1 y1) := by
  refine ⟨rfl, ⟨by show r + max x0 x1 - (-r + min x0 x1) ≤ 100; omega, by show r + max y0 y1 - (-r + min y0 y1) ≤ 100; omega⟩, fun j hj => ?_⟩
  match j, hj with
  | 0, _ => show -(2 ^ 38) < -r + min x0 x1 ∧ -r + min x0 x1 < 2 ^ 38; omega
  | 1, _ => show -(2 ^ 38) < r + max x0 x1 ∧ r + max x0 x1 < 2 ^ 38; omega
  | 2, _ => show -(2 ^ 38) < -r + min y0 y1 ∧ -r + min y0 y1 < 2 ^ 38; omega
  | 3, _ => show -(2 ^ 38) < r + max y0 y1 ∧ r + max y0 y1 < 2 ^ 38; omega
  | 4, _ => show -(2 ^ 38) < -B + min (x0 + y0) (x1 + y1) ∧ -B + min (x0 + y0) (x1 + y1) < 2 ^ 38; omega
  | 5, _ => show -(2 ^ 38) < B + max (x0 + y0) (x1 + y1) ∧ B + max (x0 + y0) (x1 + y1) < 2 ^ 38; omega
  | 6, _ => show -(2 ^ 38) < -B + min (x0 - y0) (x1 - y1) ∧ -B + min (x0 - y0) (x1 - y1) < 2 ^ 38; omega
  | 7, _ => show -(2 ^ 38) < B + max (x0 - y0) (x1 - y1) ∧ B + max (x0 - y0) (x1 - y1) < 2 ^ 38; omega
theorem dir_mul {dx dy m : Int} (hd : Dir dx dy) (h0 : 0 ≤ m) (h1 : m ≤ 30) : (-30 ≤ m * dx ∧ m * dx ≤ 30) ∧ -30 ≤ m * dy ∧ m * dy ≤ 30 := by
  rcases hd with ⟨rfl, rfl⟩ | ⟨rfl, rfl⟩ | ⟨rfl, rfl⟩ | ⟨rfl, rfl⟩ | ⟨rfl, rfl⟩ | ⟨rfl, rfl⟩ | ⟨rfl, rfl⟩ | ⟨rfl, rfl⟩ <;> omega
theorem len_mk {r B cx cy : Int} (h1 : 2 ≤ r ∧ r ≤ 6) : (quarts (mkO r B cx cy)).length ≤ 40000 := by
  have hc : ∀ x, (colQ (mkO r B cx cy) x (iv (cy - r) (cy + r))).length ≤ 48 := fun x => by
    have := flat_len (f := fun y => cellQ (mkO r B cx cy) x y) (n := 4) (fun y => cellQ_len _ x y) (iv (cy - r) (cy + r))
    rw [iv_len] at this
    show (List.flatMap (fun y => cellQ (mkO r B cx cy) x y) _).length ≤ 48
    omega
  have := flat_len (f := fun x => colQ (mkO r B cx cy) x (iv (cy - r) (cy + r))) (n := 48) hc (iv (cx - r) (cx + r))
  rw [iv_len] at this
  show ((iv (cx - r) (cx + r)).flatMap fun x => colQ (mkO r B cx cy) x (iv (cy - r) (cy + r))).length ≤ 40000
  omega
def spLaw (K : PySem.W.Frag) : Sp := fun vs H Q _ => ∃ (a : Addr) (ns : List Int), vs = [.ref a] ∧ SqL K H a (ns.map V.int) ∧ ns.length ≤ 63 ∧ ∀ H', Q (.bl true) H'
section
variable {P : Program} {w : World} {K : PySem.W.Frag} {mg : Str → Option Value} {base : Heap}
theorem scL : FnScope ["_law_script", "_law_state", "_law_steps", "_law_turn", "_law_tool_here", "_law_corner", "_law_dx", "_law_dy", "_law_many", "_law_due", "_law_held", "_law_k", "_law_quarter", "_law_last", "_law_octo"] ["_law_script"] (defScope s_law) := ⟨rfl, rfl, rfl, by decide +kernel, rfl, by decide +kernel, by decide +kernel⟩
set_option maxHeartbeats 8000000 in
theorem ok_law {f : Addr} {fd : FuncData} (F : Fun K "law" "law" s_law f fd) (T : Txt mg) (G_begin : Cal P w K mg base 1 "_law_begin" ["_law_script"] (spBegin K)) (G_take : Cal P w K mg base 1 "_law_take" ["_law_state", "_law_many"] spTake) (G_tool : Cal P w K mg base 2 "_law_tool" ["_law_state", "_law_most"] spLTool)
    (G_mark : Cal P w K mg base 2 "_law_mark" ["_law_tool_here", "_law_corner"] (spLMark K)) (G_mark_of : Cal P w K mg base 3 "mark_of" ["tool", "corner"] (spMark K)) (G_swept : Cal P w K mg base 4 "swept" ["tool", "one", "other"] (spSwept K)) (G_is_octo : Cal P w K mg base 3 "is_octo" ["thing"] (spIsOcto K))
    (G_quarters_in : Cal P w K mg base 3 "quarters_in" ["octo"] (spQuartersQ K)) (G_same : Cal P w K mg base 3 "_law_same" ["_law_found", "_law_due"] (spSame K 3)) : FnOk P w K mg base CX0 5 f fd ["_law_script"] (spLaw K) := by
  refine F.ok scL (fun vs H Q E h => ?_) (fun cdv A outer s H vs Q E hr h => ?_)
  · obtain ⟨a, ns, rfl, _⟩ := h
    rfl
  obtain ⟨a, ns, rfl, hS, h63, q⟩ := h
  have sc := @scL
  have hu := hu_of hr
  refine ⟨_, (@pss_cons _ _ _ _ _ (@ps_set _ _ 1 _ _ _ _ sc.nd rfl (Or.inl rfl) (@pe_def _ _ _ _ _ _ _ _ _ _ _ G_begin hr (by rfl) (@pa_cons _ _ _ _ _ (pv 0) pa_nil (by rfl)) (by omega) (by decide) (by rfl) (by rfl)) (by rfl) (Or.inl rfl)) (@pss_cons _ _ _ _ _ (@ps_set _ _ 2 _ _ _ _ sc.nd rfl (Or.inl rfl) (@pe_lstA _ _ _ _ (@pa_cons _ _ _ _ _ (@pe_tupA _ _ _ _ _ (@pa_cons _ _ _ _ _ pe_int (@pa_cons _ _ _ _ _ pe_int pa_nil (by rfl)) (by rfl))) (@pa_cons _ _ _ _ _ (@pe_tupA _ _ _ _ _ (@pa_cons _ _ _ _ _ pe_int (@pa_cons _ _ _ _ _ pe_int pa_nil (by rfl)) (by rfl))) (@pa_cons _ _ _ _ _ (@pe_tupA _ _ _ _ _ (@pa_cons _ _ _ _ _ pe_int (@pa_cons _ _ _ _ _ pe_int pa_nil (by rfl)) (by rfl))) (@pa_cons _ _ _ _ _ (@pe_tupA _ _ _ _ _ (@pa_cons _ _ _ _ _ (@pe_un _ _ _ _ _ _ un_neg pe_int) (@pa_cons _ _ _ _ _ pe_int pa_nil (by rfl)) (by rfl))) (@pa_cons _ _ _ _ _ (@pe_tupA _ _ _ _ _ (@pa_cons _ _ _ _ _ (@pe_un _ _ _ _ _ _ un_neg pe_int) (@pa_cons _ _ _ _ _ pe_int pa_nil (by rfl)) (by rfl))) (@pa_cons _ _ _ _ _ (@pe_tupA _ _ _ _ _ (@pa_cons _ _ _ _ _ (@pe_un _ _ _ _ _ _ un_neg pe_int) (@pa_cons _ _ _ _ _ (@pe_un _ _ _ _ _ _ un_neg pe_int) pa_nil (by rfl)) (by rfl))) (@pa_cons _ _ _ _ _ (@pe_tupA _ _ _ _ _ (@pa_cons _ _ _ _ _ pe_int (@pa_cons _ _ _ _ _ (@pe_un _ _ _ _ _ _ un_neg pe_int) pa_nil (by rfl)) (by rfl))) (@pa_cons _ _ _ _ _ (@pe_tupA _ _ _ _ _ (@pa_cons _ _ _ _ _ pe_int (@pa_cons _ _ _ _ _ (@pe_un _ _ _ _ _ _ un_neg pe_int) pa_nil (by rfl)) (by rfl))) pa_nil (by rfl)) (by rfl)) (by rfl)) (by rfl)) (by rfl)) (by rfl)) (by rfl)) (by rfl))) (by rfl) (Or.inl rfl)) (@pss_cons _ _ _ _ _ (@ps_for _ _ _ _ _ _ _ _ PassesOwn.never rfl (pi_range1 (by rfl) T.range (@pa_cons _ _ _ _ _ pe_int pa_nil (by rfl))) (pg_name (i := 3) sc.nd rfl (Or.inl rfl)) (@pss_cons _ _ _ _ _ (@ps_set _ _ 4 _ _ _ _ sc.nd rfl (Or.inl rfl) (@pe_def _ _ _ _ _ _ _ _ _ _ _ G_tool hr (by rfl) (@pa_cons _ _ _ _ _ (pv 1) (@pa_cons _ _ _ _ _ (@pe_ix _ _ _ _ _ _ _ ix_list (@pe_lstA _ _ _ _ (@pa_cons _ _ _ _ _ pe_int (@pa_cons _ _ _ _ _ pe_int pa_nil (by rfl)) (by rfl))) (@pe_callTy _ _ _ _ _ _ _ _ _ call_int1 (by rfl) T.int (by decide +kernel) (@pa_cons _ _ _ _ _ (pe_cmpR op_eq (@pe_def _ _ _ _ _ _ _ _ _ _ _ G_take hr (by rfl) (@pa_cons _ _ _ _ _ (pv 1) (@pa_cons _ _ _ _ _ pe_int pa_nil (by rfl)) (by rfl)) (by omega) (by decide) (by rfl) (by rfl)) pe_int (nomark _)) pa_nil (by rfl)) (by decide) (by decide) (by rfl) (by rfl)) (fun _ _ => rfl)) pa_nil (by rfl)) (by rfl)) (by omega) (by decide) (by rfl) (by rfl)) (by rfl) (Or.inl rfl)) (@pss_cons _ _ _ _ _ (@ps_set _ _ 5 _ _ _ _ sc.nd rfl (Or.inl rfl) (@pe_tupA _ _ _ _ _ (@pa_cons _ _ _ _ _ (@pe_op _ _ _ _ _ _ _ _ op_sub (@pe_def _ _ _ _ _ _ _ _ _ _ _ G_take hr (by rfl) (@pa_cons _ _ _ _ _ (pv 1) (@pa_cons _ _ _ _ _ pe_int pa_nil (by rfl)) (by rfl)) (by omega) (by decide) (by rfl) (by rfl)) pe_int) (@pa_cons _ _ _ _ _ (@pe_op _ _ _ _ _ _ _ _ op_sub (@pe_def _ _ _ _ _ _ _ _ _ _ _ G_take hr (by rfl) (@pa_cons _ _ _ _ _ (pv 1) (@pa_cons _ _ _ _ _ pe_int pa_nil (by rfl)) (by rfl)) (by omega) (by decide) (by rfl) (by rfl)) pe_int) pa_nil (by rfl)) (by rfl))) (by rfl) (Or.inl rfl)) (@pss_cons _ _ _ _ _ (@ps_asg _ _ _ _ _ _ (@pe_ix _ _ _ _ _ _ _ ix_list (pv 2) (@pe_def _ _ _ _ _ _ _ _ _ _ _ G_take hr (by rfl) (@pa_cons _ _ _ _ _ (pv 1) (@pa_cons _ _ _ _ _ pe_int pa_nil (by rfl)) (by rfl)) (by omega) (by decide) (by rfl) (by rfl)) (fun _ _ => rfl)) (pg_tup rfl (pgs_cons (pg_name (i := 6) sc.nd rfl (Or.inl rfl)) (pgs_cons (pg_name (i := 7) sc.nd rfl (Or.inl rfl)) pgs_nil))) (by rfl) (by rfl) (by rfl)) (@pss_cons _ _ _ _ _ (@ps_set _ _ 8 _ _ _ _ sc.nd rfl (Or.inl rfl) (@pe_def _ _ _ _ _ _ _ _ _ _ _ G_take hr (by rfl) (@pa_cons _ _ _ _ _ (pv 1) (@pa_cons _ _ _ _ _ (@pe_ix _ _ _ _ _ _ _ ix_list (@pe_lstA _ _ _ _ (@pa_cons _ _ _ _ _ pe_int (@pa_cons _ _ _ _ _ pe_int pa_nil (by rfl)) (by rfl))) (@pe_callTy _ _ _ _ _ _ _ _ _ call_int1 (by rfl) T.int (by decide +kernel) (@pa_cons _ _ _ _ _ (pe_and (pe_cmpR op_eq (@pe_def _ _ _ _ _ _ _ _ _ _ _ G_take hr (by rfl) (@pa_cons _ _ _ _ _ (pv 1) (@pa_cons _ _ _ _ _ pe_int pa_nil (by rfl)) (by rfl)) (by omega) (by decide) (by rfl) (by rfl)) pe_int (nomark _)) (pe_one (pe_cmpR op_lt (@pe_ix _ _ _ _ _ _ _ ix_tup (pv 4) pe_int (fun _ _ => rfl)) pe_int (nomark _)))) pa_nil (by rfl)) (by decide) (by decide) (by rfl) (by rfl)) (fun _ _ => rfl)) pa_nil (by rfl)) (by rfl)) (by omega) (by decide) (by rfl) (by rfl)) (by rfl) (Or.inl rfl)) (@pss_cons _ _ _ _ _ (@ps_set _ _ 9 _ _ _ _ sc.nd rfl (Or.inl rfl) (@pe_callB _ _ _ _ _ _ _ _ _ call_sortedT (by rfl) T.sorted (by decide +kernel) (@pa_cons _ _ _ _ _ (@pe_callTy _ _ _ _ _ _ _ _ _ (call_listD rfl) (by rfl) T.list (by decide +kernel) (@pa_cons _ _ _ _ _ (@pe_def _ _ _ _ _ _ _ _ _ _ _ G_mark hr (by rfl) (@pa_cons _ _ _ _ _ (pv 4) (@pa_cons _ _ _ _ _ (pv 5) pa_nil (by rfl)) (by rfl)) (by omega) (by decide) (by rfl) (by rfl)) pa_nil (by rfl)) (by decide) (by decide) (by rfl) (by rfl)) pa_nil (by rfl)) (by decide) (by decide) (by rfl) (by rfl)) (by rfl) (Or.inl rfl)) (@pss_cons _ _ _ _ _ (@ps_if _ _ _ _ _ _ _ _ (pt_not (pt_val (@pe_def _ _ _ _ _ _ _ _ _ _ _ G_same hr (by rfl) (@pa_cons _ _ _ _ _ (@pe_def _ _ _ _ _ _ _ _ _ _ _ G_quarters_in hr (by rfl) (@pa_cons _ _ _ _ _ (@pe_def _ _ _ _ _ _ _ _ _ _ _ G_mark_of hr (by rfl) (@pa_cons _ _ _ _ _ (pv 4) (@pa_cons _ _ _ _ _ (pv 5) pa_nil (by rfl)) (by rfl)) (by omega) (by decide) (by rfl) (by rfl)) pa_nil (by rfl)) (by omega) (by decide) (by rfl) (by rfl)) (@pa_cons _ _ _ _ _ (pv 9) pa_nil (by rfl)) (by rfl)) (by omega) (by decide) (by rfl) (by rfl)))) (@pss_one _ _ _ (@ps_ret _ _ _ _ pe_bl)) pss_nil) (@pss_cons _ _ _ _ _ (@ps_set _ _ 10 _ _ _ _ sc.nd rfl (Or.inl rfl) pe_dnewT (by rfl) (Or.inl rfl)) (@pss_cons _ _ _ _ _ (@ps_for _ _ _ _ _ _ _ _ PassesOwn.never rfl (pi_range1 (by rfl) T.range (@pa_cons _ _ _ _ _ (@pe_op _ _ _ _ _ _ _ _ op_add (pv 8) pe_int) pa_nil (by rfl))) (pg_name (i := 11) sc.nd rfl (Or.inl rfl)) (@pss_one _ _ _ (@ps_for _ _ _ _ _ _ _ _ PassesOwn.never rfl (pi_dict (@pe_def _ _ _ _ _ _ _ _ _ _ _ G_mark hr (by rfl) (@pa_cons _ _ _ _ _ (pv 4) (@pa_cons _ _ _ _ _ (@pe_tupA _ _ _ _ _ (@pa_cons _ _ _ _ _ (@pe_op _ _ _ _ _ _ _ _ op_add (@pe_ix _ _ _ _ _ _ _ ix_tup (pv 5) pe_int (fun _ _ => rfl)) (@pe_op _ _ _ _ _ _ _ _ op_mul (pv 11) (pv 6))) (@pa_cons _ _ _ _ _ (@pe_op _ _ _ _ _ _ _ _ op_add (@pe_ix _ _ _ _ _ _ _ ix_tup (pv 5) pe_int (fun _ _ => rfl)) (@pe_op _ _ _ _ _ _ _ _ op_mul (pv 11) (pv 7))) pa_nil (by rfl)) (by rfl))) pa_nil (by rfl)) (by rfl)) (by omega) (by decide) (by rfl) (by rfl))) (pg_name (i := 12) sc.nd rfl (Or.inl rfl)) (@pss_one _ _ _ (ps_dput hu (pv 10) (pv 12) pe_bl rfl)) (by intro _; rfl))) (by intro _; rfl)) (@pss_cons _ _ _ _ _ (@ps_set _ _ 13 _ _ _ _ sc.nd rfl (Or.inl rfl) (@pe_tupA _ _ _ _ _ (@pa_cons _ _ _ _ _ (@pe_op _ _ _ _ _ _ _ _ op_add (@pe_ix _ _ _ _ _ _ _ ix_tup (pv 5) pe_int (fun _ _ => rfl)) (@pe_op _ _ _ _ _ _ _ _ op_mul (pv 8) (pv 6))) (@pa_cons _ _ _ _ _ (@pe_op _ _ _ _ _ _ _ _ op_add (@pe_ix _ _ _ _ _ _ _ ix_tup (pv 5) pe_int (fun _ _ => rfl)) (@pe_op _ _ _ _ _ _ _ _ op_mul (pv 8) (pv 7))) pa_nil (by rfl)) (by rfl))) (by rfl) (Or.inl rfl)) (@pss_cons _ _ _ _ _ (@ps_set _ _ 14 _ _ _ _ sc.nd rfl (Or.inl rfl) (@pe_def _ _ _ _ _ _ _ _ _ _ _ G_swept hr (by rfl) (@pa_cons _ _ _ _ _ (pv 4) (@pa_cons _ _ _ _ _ (pv 5) (@pa_cons _ _ _ _ _ (pv 13) pa_nil (by rfl)) (by rfl)) (by rfl)) (by omega) (by decide) (by rfl) (by rfl)) (by rfl) (Or.inl rfl)) (@pss_cons _ _ _ _ _ (@ps_if _ _ _ _ _ _ _ _ (PW.pt (pw_or (pt_not (pt_val (@pe_def _ _ _ _ _ _ _ _ _ _ _ G_is_octo hr (by rfl) (@pa_cons _ _ _ _ _ (pv 14) pa_nil (by rfl)) (by omega) (by decide) (by rfl) (by rfl)))) (pw_or (pt_not (pt_val (@pe_callB _ _ _ _ _ _ _ _ _ call_isinst (by rfl) T.isinstance (by decide +kernel) (@pa_cons _ _ _ _ _ (pv 14) (@pa_cons _ _ _ _ _ (pe_bltn (v := .ty (Ty.nm .tup)) (by rfl) T.tuple (by decide +kernel) rfl) pa_nil (by rfl)) (by rfl)) (by decide) (by decide) (by rfl) (by rfl)))) (pw_or1 (pt_not (pt_val (@pe_def _ _ _ _ _ _ _ _ _ _ _ G_same hr (by rfl) (@pa_cons _ _ _ _ _ (@pe_def _ _ _ _ _ _ _ _ _ _ _ G_quarters_in hr (by rfl) (@pa_cons _ _ _ _ _ (pv 14) pa_nil (by rfl)) (by omega) (by decide) (by rfl) (by rfl)) (@pa_cons _ _ _ _ _ (@pe_callB _ _ _ _ _ _ _ _ _ call_sortedT (by rfl) T.sorted (by decide +kernel) (@pa_cons _ _ _ _ _ (@pe_callTy _ _ _ _ _ _ _ _ _ (call_listD rfl) (by rfl) T.list (by decide +kernel) (@pa_cons _ _ _ _ _ (pv 10) pa_nil (by rfl)) (by decide) (by decide) (by rfl) (by rfl)) pa_nil (by rfl)) (by decide) (by decide) (by rfl) (by rfl)) pa_nil (by rfl)) (by rfl)) (by omega) (by decide) (by rfl) (by rfl)))))))) (@pss_one _ _ _ (@ps_ret _ _ _ _ pe_bl)) pss_nil) (@pss_one _ _ _ (@ps_if _ _ _ _ _ _ _ _ (pt_not (pt_val (@pe_def _ _ _ _ _ _ _ _ _ _ _ G_same hr (by rfl) (@pa_cons _ _ _ _ _ (@pe_lstA _ _ _ _ (@pa_cons _ _ _ _ _ (@pe_def _ _ _ _ _ _ _ _ _ _ _ G_swept hr (by rfl) (@pa_cons _ _ _ _ _ (pv 4) (@pa_cons _ _ _ _ _ (pv 13) (@pa_cons _ _ _ _ _ (pv 5) pa_nil (by rfl)) (by rfl)) (by rfl)) (by omega) (by decide) (by rfl) (by rfl)) (@pa_cons _ _ _ _ _ (@pe_def _ _ _ _ _ _ _ _ _ _ _ G_swept hr (by rfl) (@pa_cons _ _ _ _ _ (@pe_callTy _ _ _ _ _ _ _ _ _ call_listA (by rfl) T.list (by decide +kernel) (@pa_cons _ _ _ _ _ (pv 4) pa_nil (by rfl)) (by decide) (by decide) (by rfl) (by rfl)) (@pa_cons _ _ _ _ _ (@pe_callTy _ _ _ _ _ _ _ _ _ call_listA (by rfl) T.list (by decide +kernel) (@pa_cons _ _ _ _ _ (pv 5) pa_nil (by rfl)) (by decide) (by decide) (by rfl) (by rfl)) (@pa_cons _ _ _ _ _ (@pe_callTy _ _ _ _ _ _ _ _ _ call_listA (by rfl) T.list (by decide +kernel) (@pa_cons _ _ _ _ _ (pv 13) pa_nil (by rfl)) (by decide) (by decide) (by rfl) (by rfl)) pa_nil (by rfl)) (by rfl)) (by rfl)) (by omega) (by decide) (by rfl) (by rfl)) pa_nil (by rfl)) (by rfl))) (@pa_cons _ _ _ _ _ (@pe_lstA _ _ _ _ (@pa_cons _ _ _ _ _ (pv 14) (@pa_cons _ _ _ _ _ (pv 14) pa_nil (by rfl)) (by rfl))) pa_nil (by rfl)) (by rfl)) (by omega) (by decide) (by rfl) (by rfl)))) (@pss_one _ _ _ (@ps_ret _ _ _ _ pe_bl)) pss_nil))))))))))))) (by intro _; rfl)) (@pss_one _ _ _ (@ps_ret _ _ _ _ pe_bl))))), ?_⟩
  refine ⟨_, rfl, a, ns, rfl, hS, h63, fun st c cs H1 _ _ S1 g1 => ?_⟩
  -- steps
  refine ⟨(by show 2 ≤ sizeLine; decide), fun t1 G1 _ f1 d1 => ⟨(by show 2 ≤ sizeLine; decide), fun t2 G2 _ f2 d2 => ⟨(by show 2 ≤ sizeLine; decide), fun t3 G3 _ f3 d3 => ?_⟩⟩⟩
  refine ⟨_, rfl, (by show 2 ≤ sizeLine; decide), fun t4 G4 _ f4 d4 => ⟨_, rfl, (by show 2 ≤ sizeLine; decide), fun t5 G5 _ f5 d5 => ⟨_, rfl, _, rfl, (by show 2 ≤ sizeLine; decide), fun t6 G6 _ f6 d6 => ?_⟩⟩⟩
  refine ⟨_, rfl, (by show 2 ≤ sizeLine; decide), fun t7 G7 _ f7 d7 => ⟨_, rfl, (by show 2 ≤ sizeLine; decide), fun t8 G8 _ f8 d8 => ?_⟩⟩
  refine ⟨(by show 8 ≤ sizeLine; decide), fun ls G9 hls f9 d9 => ?_⟩
  have k8 := f9
  have k7 := f8.trans' k8
  have k6 := f7.trans' k7
  have k5 := f6.trans' k6
  have k4 := f5.trans' k5
  have k3 := f4.trans' k4
  have k2 := f3.trans' k3
  have k1 := f2.trans' k2
  have k0 := f1.trans' k1
  have S9 := S1.same k0
  have nls : ls ≠ st ∧ ls ≠ c := ⟨(ne_of_none (S1.same (f1.trans' (f2.trans' (f3.trans' (f4.trans' (f5.trans' (f6.trans' (f7.trans' f8)))))))).d hls).symm, (ne_of_none (S1.same (f1.trans' (f2.trans' (f3.trans' (f4.trans' (f5.trans' (f6.trans' (f7.trans' f8)))))))).l hls).symm⟩
  have P9 : Stp G9 ls [.ref t1, .ref t2, .ref t3, .ref t4, .ref t5, .ref t6, .ref t7, .ref t8] := ⟨d9, fun r h0 h1 => by
    rcases (show r = 0 ∨ r = 1 ∨ r = 2 ∨ r = 3 ∨ r = 4 ∨ r = 5 ∨ r = 6 ∨ r = 7 by omega) with rfl | rfl | rfl | rfl | rfl | rfl | rfl | rfl
    · exact ⟨t1, 1, 0, rfl, k1 _ _ d1, .inl ⟨rfl, rfl⟩⟩
    · exact ⟨t2, 1, 1, rfl, k2 _ _ d2, .inr (.inl ⟨rfl, rfl⟩)⟩
    · exact ⟨t3, 0, 1, rfl, k3 _ _ d3, .inr (.inr (.inl ⟨rfl, rfl⟩))⟩
    · exact ⟨t4, -1, 1, rfl, k4 _ _ d4, .inr (.inr (.inr (.inl ⟨rfl, rfl⟩)))⟩
    · exact ⟨t5, -1, 0, rfl, k5 _ _ d5, .inr (.inr (.inr (.inr (.inl ⟨rfl, rfl⟩))))⟩
    · exact ⟨t6, -1, -1, rfl, k6 _ _ d6, .inr (.inr (.inr (.inr (.inr (.inl ⟨rfl, rfl⟩)))))⟩
    · exact ⟨t7, 0, -1, rfl, k7 _ _ d7, .inr (.inr (.inr (.inr (.inr (.inr (.inl ⟨rfl, rfl⟩))))))⟩
    · exact ⟨t8, 1, -1, rfl, k8 _ _ d8, .inr (.inr (.inr (.inr (.inr (.inr (.inr ⟨rfl, rfl⟩))))))⟩⟩
  revert P9
  generalize ([.ref t1, .ref t2, .ref t3, .ref t4, .ref t5, .ref t6, .ref t7, .ref t8] : List V) = xs
  intro P9
  clear k0 k1 k2 k3 k4 k5 k6 k7 k8 d1 d2 d3 d4 d5 d6 d7 d8 d9 f1 f2 f3 f4 f5 f6 f7 f8 f9 S1 g1 hls
  refine ⟨3, rfl, by decide, by decide, for_range (lo := 0) (n := (3 : Int).toNat) (fun i σ H3 => ∃ (v3 v4 v5 v6 v7 v8 v9 v10 v11 v12 v13 v14 : Option V) (cs3 : List Int) (t : Int), σ = [some (.ref a), some (.ref st), some (.ref ls), v3, v4, v5, v6, v7, v8, v9, v10, v11, v12, v13, v14] ∧ StAt H3 st c cs3 t ∧ Stp H3 ls xs ∧ 0 ≤ t ∧ t ≤ 100 * (i : Int)) ⟨none, none, none, none, none, none, none, none, none, none, none, none, cs, 0, rfl, S9, P9, by decide, by decide⟩ ?_ ?_⟩
  · clear S9 P9
    rintro i σ H3 hi ⟨v3, v4, v5, v6, v7, v8, v9, v10, v11, v12, v13, v14, cs3, t, rfl, S3, P3, t0, t1⟩
    have hi' : (i : Int) < 3 := by have : i < 3 := hi; omega
    have tb : t ≤ 300 := by omega
    -- tool
    refine ⟨_, rfl, (by show 2 ≤ sizeLine; decide), fun l4 H4 h4 g4 e4 => ?_⟩
    have n4 : l4 ≠ st ∧ l4 ≠ c := ⟨(ne_of_none S3.d h4).symm, (ne_of_none S3.l h4).symm⟩
    have S4 := S3.same g4
    have P4 := P3.same g4
    refine ⟨_, rfl, st, c, cs3, t, 8, rfl, S4, t0, by omega, by decide, by decide, fun r5 cs5 H5 a5 b5 S5 K5 => ?_⟩
    have P5 := P4.kp S4 K5 nls.1 nls.2
    have e5 := K5 _ _ e4 n4.1 n4.2
    refine ⟨rfl, .inr ⟨_, rfl, l4, _, _, _, rfl, rfl, SqL.of e5, pickI 4 6 _, ?_⟩⟩
    refine ⟨st, c, cs5, t + 1, _, rfl, S5, by omega, by omega, by split <;> omega, by split <;> omega, fun n0 n1 n2 n3 n4 cs6 pt H6 tl S6 K6 e6 => ?_⟩
    have P6 := P5.kp S5 K6 nls.1 nls.2
    have m0 : 2 ≤ n0 ∧ n0 ≤ 6 := ⟨tl.a.1, by have := tl.a.2; split at this <;> omega⟩
    have m1 := tl.b
    clear tl e4 e5 h4 K5 K6 g4 S4 P4 P5 a5 b5
    -- corner
    refine ⟨_, rfl, st, c, cs6, t + 1 + 5, 41, rfl, S6, by omega, by omega, by decide, by decide, fun r7 cs7 H7 a7 b7 S7 K7 => ?_⟩
    have P7 := P6.kp S6 K7 nls.1 nls.2
    have e7 := S6.t K7 _ _ e6 rfl
    refine ⟨_, _, rfl, rfl, _, rfl, st, c, cs7, t + 1 + 5 + 1, 41, rfl, S7, by omega, by omega, by decide, by decide, fun r8 cs8 H8 a8 b8 S8 K8 => ?_⟩
    have P8 := P7.kp S7 K8 nls.1 nls.2
    have e8 := S7.t K8 _ _ e7 rfl
    refine ⟨_, _, rfl, rfl, (by show 2 ≤ sizeLine; decide), fun pc H9 hpc g9 c9 => ?_⟩
    have S9 := S8.same g9
    have P9 := P8.same g9
    have e9 := g9 _ _ e8
    obtain ⟨cx, ecx, bx⟩ : ∃ cx, cx = r7 - 10 ∧ -10 ≤ cx ∧ cx ≤ 30 := ⟨_, rfl, by omega, by omega⟩
    obtain ⟨cy, ecy, bY⟩ : ∃ cy, cy = r8 - 10 ∧ -10 ≤ cy ∧ cy ≤ 30 := ⟨_, rfl, by omega, by omega⟩
    have c9 : H9 pc = some (.tup [.int (r7 - 10), .int (r8 - 10)]) := c9
    rw [← ecx, ← ecy] at c9
    clear K7 K8 g9 hpc P6 P7 P8 S6 S7 S8 e6 e7 e8 ecx ecy a7 b7 a8 b8
    -- dx, dy
    refine ⟨_, rfl, _, rfl, st, c, cs8, t + 1 + 5 + 1 + 1, 8, rfl, S9, by omega, by omega, by decide, by decide, fun r10 cs10 H10 a10 b10 S10 K10 => ?_⟩
    have P10 := P9.kp S9 K10 nls.1 nls.2
    have e10 := S9.t K10 _ _ e9 rfl
    have c10 := S9.t K10 _ _ c9 rfl
    obtain ⟨td, dx, dy, hat, etd, hd⟩ := P10.s r10 a10 b10
    refine ⟨ls, _, _, _, rfl, rfl, SqL.of P10.l, hat, ?_⟩
    refine ⟨td, _, rfl, SqT.of etd, rfl, _, _, rfl, _, _, rfl, rfl, ?_⟩
    clear K10 P9 S9 e9 c9 hat etd a10 b10
    -- many
    refine ⟨_, rfl, (by show 2 ≤ sizeLine; decide), fun l8 H11 h11 g11 e11 => ?_⟩
    have n8 : l8 ≠ st ∧ l8 ≠ c := ⟨(ne_of_none S10.d h11).symm, (ne_of_none S10.l h11).symm⟩
    have S11 := S10.same g11
    have P11 := P10.same g11
    refine ⟨_, rfl, st, c, cs10, t + 1 + 5 + 1 + 1 + 1, 8, rfl, S11, by omega, by omega, by decide, by decide, fun r12 cs12 H12 a12 b12 S12 K12 => ?_⟩
    have P12 := P11.kp S11 K12 nls.1 nls.2
    have e12 := S11.t K12 _ _ (g11 _ _ e10) rfl
    have c12 := S11.t K12 _ _ (g11 _ _ c10) rfl
    have l12 := K12 _ _ e11 n8.1 n8.2
    clear K12 P11 S11 P10 S10 e10 c10 e11 g11 h11 a12 b12
    refine ⟨rfl, _, rfl, iteB (fun hb => ⟨_, rfl, pt, _, _, _, rfl, rfl, SqT.of e12, atI_nat (j := 0) rfl, _, _, rfl, rfl, ?_⟩) (fun hb => ?_)⟩
    all_goals
      refine .inr ⟨_, rfl, l8, _, _, _, rfl, rfl, SqL.of l12, pickI 8 31 _, st, c, cs12, t + 1 + 5 + 1 + 1 + 1 + 1, _, rfl, S12, by omega, by omega, by split <;> omega, by split <;> omega, fun m cs13 Hb a13 b13 S13 K13 => ?_⟩
      have hm : m ≤ 30 := by split at b13 <;> omega
      have P13 := P12.kp S12 K13 nls.1 nls.2
      have e13 := S12.t K13 _ _ e12 rfl
      have c13 := S12.t K13 _ _ c12 rfl
      clear K13 P12 S12 e12 c12 l12 n8 hb b13
      have B1 : n0 < n0 + n1 := by omega
      have B2 : n0 + n1 < 2 * n0 := by omega
      have dm := dir_mul hd a13 hm
      -- due
      refine ⟨_, rfl, _, rfl, pt, pc, n0, n1, n2, n3, n4, cx, cy, rfl, SqT.of e13, SqT.of c13, m0.1, m0.2, m1.1, m1.2, fun pm kvs J1 _ j1 em dq zm => ?_⟩
      refine ⟨pm, kvs, rfl, em, fun bs pr nd pl J2 _ j2 el => ?_⟩
      obtain ⟨qs, eqs, ndq, memq⟩ := dq.list nd
      refine ⟨pl, _, _, rfl, SqL.of el, rows_of (Paired.mapP pr fun b p z => j2 _ _ z) eqs, fun zs ls' rz pmz so ps J3 _ j3 es => ?_⟩
      have dz := sorted_is (o := mkO n0 (n0 + n1) cx cy) rz pmz so ndq memq
      have jj := j1.trans' (j2.trans' j3)
      -- same
      refine ⟨_, rfl, _, rfl, true, true, pt, pc, n0, n1, n2, n3, n4, cx, cy, rfl, SqT.of (jj _ _ e13), SqT.of (jj _ _ c13), fun po J4 j4 s4 => ?_⟩
      refine ⟨true, po, mkO n0 (n0 + n1) cx cy, rfl, s4, fit_mk m0 ⟨B1, B2⟩ (by omega) (by omega), fun pq acc J5 _ j5 e5 ql => ?_⟩
      refine ⟨_, rfl, _, _, .lst ((quarts (mkO n0 (n0 + n1) cx cy)).map qD), rfl, has_qs e5 ql.hasL, has_qs ((j4.trans' j5) _ _ es) (HasL.same (j3.trans' (j4.trans' j5)) dz), gd_qs (Nat.le_trans (len_mk m0) (by decide)), dpt_qs _, fun J6 j6 => ⟨_, rfl, iteBF rfl ?_⟩⟩
      have jb : Same Hb J6 := jj.trans' (j4.trans' (j5.trans' j6))
      clear dz jj j1 j2 j3 j4 j5 j6 s4 e5 ql es rz pmz so el em dq zm pr nd eqs ndq memq
      have S6 := S13.same jb
      have P6 := P13.same jb
      have e6 := jb _ _ e13
      have c6 := jb _ _ c13
      clear jb S13 P13 e13 c13
      -- held
      intro p0 hp0
      have g0 := same_new hp0 (.dT [])
      have d0 : (upd J6 p0 (.dT [])) p0 = some (.dT []) := upd_same
      revert g0 d0
      generalize upd J6 p0 (.dT []) = L0
      intro g0 d0
      refine ⟨_, rfl, _, _, rfl, rfl, m + 1, rfl, by omega, by omega, for_range (lo := 0) (n := (m + 1).toNat) (fun i σ L => ∃ (v11 v12 : Option V) (kv : List (List Key × V)), σ = [some (.ref a), some (.ref st), some (.ref ls), _, some (.ref pt), some (.ref pc), some (.int dx), some (.int dy), some (.int m), some (.ref ps), some (.ref p0), v11, v12, v13, v14] ∧ Same J6 L ∧ L p0 = some (.dT kv) ∧ DQ kv (fun q => ∃ j : Nat, j < i ∧ q ∈ quarts (mkO n0 (n0 + n1) (cx + (j : Int) * dx) (cy + (j : Int) * dy))) ∧ kv.length ≤ 600 * i)
        ⟨v11, v12, [], rfl, g0, d0, DQ.nil.congr fun q => ⟨fun z => z.elim, fun ⟨j, hj, _⟩ => absurd hj (Nat.not_lt_zero _)⟩, Nat.zero_le _⟩ ?_ ?_⟩
      · rintro i σ L hi ⟨v11, v12, kv, rfl, gl, el, dl, zl⟩
        have i30 : (i : Int) ≤ 30 := by omega
        have cL := SqT.of (K := K) (gl _ _ c6)
        refine ⟨_, rfl, _, rfl, pc, _, _, _, rfl, rfl, cL, atI_nat (j := 0) rfl, _, rfl, _, rfl, _, _, rfl, rfl, .inl (by omega), _, _, rfl, rfl, _, rfl, pc, _, _, _, rfl, rfl, cL, atI_nat (j := 1) rfl, _, rfl, _, rfl, _, _, rfl, rfl, .inl (by omega), _, _, rfl, rfl, (by show 2 ≤ sizeLine; decide), fun pk L1 hpk l1 ek => ?_⟩
        rw [Int.zero_add] at ek
        refine ⟨pt, pk, n0, n1, n2, n3, n4, cx + (i : Int) * dx, cy + (i : Int) * dy, rfl, SqT.of (l1 _ _ (gl _ _ e6)), SqT.of ek, m0.1, m0.2, m1.1, m1.2, fun pm km L2 hpm l2 em dm' zm => ?_⟩
        have npm : pm ≠ p0 := (ne_of_none (l1 _ _ el) hpm).symm
        have n6 : J6 pm = none := by
          cases z : J6 pm with
          | none => rfl
          | some u => rw [(l1 _ _ (gl _ _ z))] at hpm; cases hpm
        refine ⟨pm, km, rfl, .inl ⟨em, fun ob L3 P3 => ?_⟩⟩
        have el3 := P3.keep ((l1.trans' l2) _ _ el) npm.symm
        have gl3 : Same J6 L3 := fun b u e => P3.keep ((l1.trans' l2) _ _ (gl _ _ e)) (ne_of_none e n6)
        refine for_dict (kvs := km) (o := ob) (d := pm) (fun j σ L4 => ∃ (v12 : Option V) (k4 : List (List Key × V)), σ = [some (.ref a), some (.ref st), some (.ref ls), _, some (.ref pt), some (.ref pc), some (.int dx), some (.int dy), some (.int m), some (.ref ps), some (.ref p0), some (.int (0 + (i : Int))), v12, v13, v14] ∧ Same J6 L4 ∧ L4 p0 = some (.dT k4) ∧ L4 pm = some (.frz ob (.dT km)) ∧ DQ k4 (fun q => (∃ j : Nat, j < i ∧ q ∈ quarts (mkO n0 (n0 + n1) (cx + (j : Int) * dx) (cy + (j : Int) * dy))) ∨ kQ q ∈ (km.take j).map (·.1)) ∧ k4.length ≤ 600 * i + j)
          ⟨v12, kv, rfl, gl3, el3, P3.at_, dl.congr fun q => by simp, by omega⟩ (fun j σ L4 _ ⟨_, _, _, _, _, z, _⟩ => z) ?_ ?_
        · rintro j k x b σ L4 hk eb ⟨v12, k4, rfl, g4, e4, m4, d4, z4⟩
          obtain ⟨q', rfl, hq'⟩ := dm'.mem (List.mem_of_getElem? hk)
          have hj : j < km.length := (List.getElem?_eq_some_iff.mp hk).1
          refine ⟨_, rfl, _, rfl, p0, _, rfl, DPut.t (k := kQ q') e4 eb (by show k4.length < 2 ^ 24; omega), ?_⟩
          refine ⟨_, _, rfl, fun b u e => ?_, upd_same, ?_, (d4.put q' _).congr fun r => ?_, ?_⟩
          · rw [upd_ne (ne_of_none e hp0)]
            exact g4 _ _ e
          · rw [upd_ne npm]
            exact m4
          · rw [List.take_add_one, hk, List.map_append, List.mem_append, or_assoc]
            show _ ↔ _ ∨ _ ∨ kQ r ∈ [kQ q']
            rw [List.mem_singleton]
            exact or_congr Iff.rfl (or_congr Iff.rfl ⟨fun z => by rw [z], kQ_inj⟩)
          · have := length_putK k4 (kQ q') (.bl true)
            omega
        · rintro σ L4 ⟨v12, k4, rfl, g4, e4, m4, d4, z4⟩
          refine ⟨_, _, k4, rfl, g4, e4, d4.congr fun r => ?_, by omega⟩
          rw [List.take_length]
          constructor
          · rintro (⟨j, hj, z⟩ | z)
            · exact ⟨j, by omega, z⟩
            · obtain ⟨⟨k, x⟩, hkv, ekv⟩ := List.mem_map.mp z
              obtain ⟨q', eq', hq'⟩ := dm'.mem hkv
              have : q' = r := kQ_inj (eq'.symm.trans ekv)
              subst this
              exact ⟨i, by omega, hq'⟩
          · rintro ⟨j, hj, z⟩
            by_cases e : j < i
            · exact .inl ⟨j, e, z⟩
            · have e' : j = i := by omega
              subst e'
              refine .inr ?_
              have := (dm'.has r).mpr z
              rw [← valV_any] at this
              obtain ⟨kv', h1, h2⟩ := List.any_eq_true.mp this
              exact List.mem_map.mpr ⟨kv', h1, of_decide_eq_true h2⟩
      · rintro σ L ⟨v11, v12, kv, rfl, gl, el, dl, zl⟩
        -- last
        have cL := SqT.of (K := K) (gl _ _ c6)
        refine ⟨_, rfl, pc, _, _, _, rfl, rfl, cL, atI_nat (j := 0) rfl, _, rfl, _, rfl, _, _, rfl, rfl, .inl (by omega), _, _, rfl, rfl, _, rfl, pc, _, _, _, rfl, rfl, cL, atI_nat (j := 1) rfl, _, rfl, _, rfl, _, _, rfl, rfl, .inl (by omega), _, _, rfl, rfl, (by show 2 ≤ sizeLine; decide), fun pe L1 hpe l1 ee => ?_⟩
        have eL1 := l1 _ _ (gl _ _ e6)
        have cL1 := l1 _ _ (gl _ _ c6)
        -- octo
        refine ⟨_, rfl, _, rfl, _, rfl, true, true, true, pt, pc, pe, n0, n1, n2, n3, n4, cx, cy, cx + m * dx, cy + m * dy, rfl, SqT.of eL1, SqT.of cL1, SqT.of ee, fun po L2 l2 s2 => ?_⟩
        obtain ⟨O, eO⟩ : ∃ O, O = swO n0 (n0 + n1) cx cy (cx + m * dx) (cy + m * dy) := ⟨_, rfl⟩
        have ft : Fit O := by rw [eO]; exact fit_sw m0 ⟨B1, B2⟩ (by omega) (by omega) (by omega) (by omega)
        rw [← eO] at s2
        have o8 : O.length = 8 := ft.1
        have oP : octoP (di O) := by
          obtain ⟨w, e, s, n, a, b, c, d, z, hM⟩ := sw_met (r := n0) (B := n0 + n1) (x0 := cx) (y0 := cy) (x1 := cx + m * dx) (y1 := cy + m * dy) m0.1 B1 B2
          rw [eO, z]
          exact ⟨w, e, s, n, a, b, c, d, rfl, hM⟩
        -- is an octo
        refine ⟨_, rfl, _, rfl, .inr ⟨di O, row8 (b := true) s2 o8, fun r L3 ir l3 => ?_⟩⟩
        have hr' : r = true := ir.mpr oP
        subst hr'
        refine ⟨_, rfl, iteBF rfl ?_⟩
        refine ⟨_, rfl, _, _, .tup, [.tup], rfl, .tup (SqT.same l3 s2), .inl ⟨_, rfl, rfl⟩, _, rfl, iteBF (by decide) ?_⟩
        refine ⟨_, rfl, true, po, O, rfl, SqT.same l3 s2, ft.fits, fun pq acc L4 _ l4 eq ql => ?_⟩
        have el4 := (l1.trans' (l2.trans' (l3.trans' l4))) _ _ el
        refine ⟨_, rfl, p0, kv, rfl, el4, fun bs pr nd pl L5 _ l5 e5 => ?_⟩
        obtain ⟨qs, eqs, ndq, memq⟩ := dl.list nd
        refine ⟨pl, _, _, rfl, SqL.of e5, rows_of (Paired.mapP pr fun b p z => l5 _ _ z) eqs, fun zs ls' rz pmz so pz L6 _ l6 e6' => ?_⟩
        have mm : ∀ r, r ∈ qs ↔ r ∈ quarts O := fun r => by
          rw [memq r, mem_quarts]
          constructor
          · rintro ⟨j, hj, z⟩
            obtain ⟨k, hk, e, hh⟩ := mem_quarts.mp z
            rw [eO]
            exact ⟨k, hk, e, way_back hd (by omega) (by omega) hh⟩
          · rintro ⟨k, hk, e, hh⟩
            rw [eO, show m = ((m.toNat : Nat) : Int) by omega] at hh
            obtain ⟨j, hj, z⟩ := way_on hk hd m0.1 B1 B2 m.toNat hh
            exact ⟨j, by omega, mem_quarts.mpr ⟨k, hk, e, z⟩⟩
        have dz := sorted_is (o := O) rz pmz so ndq mm
        refine ⟨_, _, .lst ((quarts O).map qD), rfl, has_qs ((l5.trans' l6) _ _ eq) (HasL.same (l5.trans' l6) ql.hasL), has_qs e6' (HasL.same l6 dz), gd_qs (Nat.le_trans ft.few (by decide)), dpt_qs _, fun L7 l7 => ⟨_, rfl, iteBF rfl ?_⟩⟩
        -- the other way about
        have l27 := l3.trans' (l4.trans' (l5.trans' (l6.trans' l7)))
        have l17 := l2.trans' l27
        have eL7 := l17 _ _ eL1
        have cL7 := l17 _ _ cL1
        have ee7 := l17 _ _ ee
        have s7 := SqT.same l27 s2
        have J7 : Same J6 L7 := gl.trans' (l1.trans' l17)
        refine ⟨_, rfl, _, rfl, _, rfl, true, true, true, pt, pe, pc, n0, n1, n2, n3, n4, cx + m * dx, cy + m * dy, cx, cy, rfl, SqT.of eL7, SqT.of ee7, SqT.of cL7, fun pA L8 l8' sA => ?_⟩
        rw [swO_comm, ← eO] at sA
        refine ⟨_, rfl, true, pt, _, rfl, SqT.of (l8' _ _ eL7), fun lt L9 _ l9 et => ?_⟩
        refine ⟨_, rfl, true, pc, _, rfl, SqT.of ((l8'.trans' l9) _ _ cL7), fun lc L10 _ l10 ec => ?_⟩
        refine ⟨_, rfl, true, pe, _, rfl, SqT.of ((l8'.trans' (l9.trans' l10)) _ _ ee7), fun le L11 _ l11 ele => ?_⟩
        refine ⟨false, false, false, lt, lc, le, n0, n1, n2, n3, n4, cx, cy, cx + m * dx, cy + m * dy, rfl, SqL.of ((l10.trans' l11) _ _ et), SqL.of (l11 _ _ ec), SqL.of ele, fun pB L12 l12 sB => ?_⟩
        rw [← eO] at sB
        refine ⟨(by show 2 ≤ sizeLine; decide), fun lA L13 _ l13 eA => ?_⟩
        refine ⟨_, rfl, _, rfl, (by show 2 ≤ sizeLine; decide), fun lB L14 _ l14 eB => ?_⟩
        have hA := has_tupI (SqT.same (l9.trans' (l10.trans' (l11.trans' (l12.trans' (l13.trans' l14))))) sA)
        have hB := has_tupI (SqT.same (l13.trans' l14) sB)
        have hO := has_tupI (SqT.same (l8'.trans' (l9.trans' (l10.trans' (l11.trans' (l12.trans' (l13.trans' l14)))))) s7)
        have gO : gd (oD O) = true := gd_tup (by rw [o8]; decide)
        have pO : dpt (oD O) < 2 := by rw [oD, dpt, dptL_ints]; decide
        refine ⟨_, _, .lst [oD O, oD O], rfl, has_two (l14 _ _ eA) hA hB, has_two eB hO hO, gd_two gO gO, dpt_two pO pO, fun L15 l15 => ⟨_, rfl, iteBF rfl ?_⟩⟩
        have JJ : Same J6 L15 := J7.trans' (l8'.trans' (l9.trans' (l10.trans' (l11.trans' (l12.trans' (l13.trans' (l14.trans' l15)))))))
        exact ⟨_, _, _, _, _, _, _, _, _, _, _, _, _, _, rfl, S6.same JJ, P6.same JJ, by omega, by push_cast; omega⟩
  · rintro σ H3 ⟨v3, v4, v5, v6, v7, v8, v9, v10, v11, v12, v13, v14, cs3, t, rfl, S3, P3, t0, t1⟩
    exact q H3
end
end Mp

namespace Mp
open PySem L2
theorem all_mk {l : PySem.W.OpenLaw} {w : World} {K : PySem.W.Frag} {h : Heap} {mg : Str → Option Value} {fa : Addr} (X : K.In h) (G : h.Ns mainGlobals mg) (hfa : mg "law" = some (.ref fa))
    {f1 : Addr} {od1 an1 : Option Addr} {sl1 : Array (Option Value)} {oc1 kV1 dc1 pm1 cd1 ct1 : Value}
    {f2 : Addr} {od2 an2 : Option Addr} {sl2 : Array (Option Value)} {oc2 kV2 dc2 pm2 cd2 ct2 : Value}
    {f3 : Addr} {od3 an3 : Option Addr} {sl3 : Array (Option Value)} {oc3 kV3 dc3 pm3 cd3 ct3 : Value}
    {f4 : Addr} {od4 an4 : Option Addr} {sl4 : Array (Option Value)} {oc4 kV4 dc4 pm4 cd4 ct4 : Value}
    {f5 : Addr} {od5 an5 : Option Addr} {sl5 : Array (Option Value)} {oc5 kV5 dc5 pm5 cd5 ct5 : Value}
    {f6 : Addr} {od6 an6 : Option Addr} {sl6 : Array (Option Value)} {oc6 kV6 dc6 pm6 cd6 ct6 : Value}
    {f7 : Addr} {od7 an7 : Option Addr} {sl7 : Array (Option Value)} {oc7 kV7 dc7 pm7 cd7 ct7 : Value}
    {f8 : Addr} {od8 an8 : Option Addr} {sl8 : Array (Option Value)} {oc8 kV8 dc8 pm8 cd8 ct8 : Value}
    {f9 : Addr} {od9 an9 : Option Addr} {sl9 : Array (Option Value)} {oc9 kV9 dc9 pm9 cd9 ct9 : Value}
    {f10 : Addr} {od10 an10 : Option Addr} {sl10 : Array (Option Value)} {oc10 kV10 dc10 pm10 cd10 ct10 : Value}
    {f11 : Addr} {od11 an11 : Option Addr} {sl11 : Array (Option Value)} {oc11 kV11 dc11 pm11 cd11 ct11 : Value}
    {f12 : Addr} {od12 an12 : Option Addr} {sl12 : Array (Option Value)} {oc12 kV12 dc12 pm12 cd12 ct12 : Value}
    {f13 : Addr} {od13 an13 : Option Addr} {sl13 : Array (Option Value)} {oc13 kV13 dc13 pm13 cd13 ct13 : Value}
    {f14 : Addr} {od14 an14 : Option Addr} {sl14 : Array (Option Value)} {oc14 kV14 dc14 pm14 cd14 ct14 : Value}
    {f15 : Addr} {od15 an15 : Option Addr} {sl15 : Array (Option Value)} {oc15 kV15 dc15 pm15 cd15 ct15 : Value}
    {f16 : Addr} {od16 an16 : Option Addr} {sl16 : Array (Option Value)} {oc16 kV16 dc16 pm16 cd16 ct16 : Value}
    {f17 : Addr} {od17 an17 : Option Addr} {sl17 : Array (Option Value)} {oc17 kV17 dc17 pm17 cd17 ct17 : Value}
    {f18 : Addr} {od18 an18 : Option Addr} {sl18 : Array (Option Value)} {oc18 kV18 dc18 pm18 cd18 ct18 : Value}
    {f19 : Addr} {od19 an19 : Option Addr} {sl19 : Array (Option Value)} {oc19 kV19 dc19 pm19 cd19 ct19 : Value}
    {f20 : Addr} {od20 an20 : Option Addr} {sl20 : Array (Option Value)} {oc20 kV20 dc20 pm20 cd20 ct20 : Value}
    {f21 : Addr} {od21 an21 : Option Addr} {sl21 : Array (Option Value)} {oc21 kV21 dc21 pm21 cd21 ct21 : Value}
    {f22 : Addr} {od22 an22 : Option Addr} {sl22 : Array (Option Value)} {oc22 kV22 dc22 pm22 cd22 ct22 : Value}
    {aS : Addr} {dS : Option Addr} {nS : Nat} {slS : Array (Option Value)} {cp0 : Addr} {cp1 : Addr} {cp2 : Addr} {cp3 : Addr}
    {cd0_ : Option Addr} {cn0_ : Nat} {cs0_ : Array (Option Value)} {ct0_ cu0_ : Tok}
    {cd1_ : Option Addr} {cn1_ : Nat} {cs1_ : Array (Option Value)} {ct1_ cu1_ : Tok}
    {cd2_ : Option Addr} {cn2_ : Nat} {cs2_ : Array (Option Value)} {ct2_ cu2_ : Tok}
    {cd3_ : Option Addr} {cn3_ : Nat} {cs3_ : Array (Option Value)} {ct3_ cu3_ : Tok}
    (a1 : PySem.W.nsIn K mainGlobals "is_number" = some (some (.ref f1))) (l1 : K.lookup f1 = some ⟨oc1, od1, .func (PySem.W.fnOf "is_number" "is_number" (defArgs s_is_number) (defBody s_is_number) (defScope s_is_number) .none kV1 dc1 pm1 an1 cd1 ct1), sl1⟩) (c1 : PySem.W.codeIn K cd1 "is_number" = true) (k1 : PySem.W.keepIn K (.ref f1) = true)
    (a2 : PySem.W.nsIn K mainGlobals "is_row" = some (some (.ref f2))) (l2 : K.lookup f2 = some ⟨oc2, od2, .func (PySem.W.fnOf "is_row" "is_row" (defArgs s_is_row) (defBody s_is_row) (defScope s_is_row) .none kV2 dc2 pm2 an2 cd2 ct2), sl2⟩) (c2 : PySem.W.codeIn K cd2 "is_row" = true) (k2 : PySem.W.keepIn K (.ref f2) = true)
    (a3 : PySem.W.nsIn K mainGlobals "are_numbers" = some (some (.ref f3))) (l3 : K.lookup f3 = some ⟨oc3, od3, .func (PySem.W.fnOf "are_numbers" "are_numbers" (defArgs s_are_numbers) (defBody s_are_numbers) (defScope s_are_numbers) .none kV3 dc3 pm3 an3 cd3 ct3), sl3⟩) (c3 : PySem.W.codeIn K cd3 "are_numbers" = true) (k3 : PySem.W.keepIn K (.ref f3) = true)
    (a4 : PySem.W.nsIn K mainGlobals "inner_point" = some (some (.ref f4))) (l4 : K.lookup f4 = some ⟨oc4, od4, .func (PySem.W.fnOf "inner_point" "inner_point" (defArgs s_inner_point) (defBody s_inner_point) (defScope s_inner_point) .none kV4 dc4 pm4 an4 cd4 ct4), sl4⟩) (c4 : PySem.W.codeIn K cd4 "inner_point" = true) (k4 : PySem.W.keepIn K (.ref f4) = true)
    (a5 : PySem.W.nsIn K mainGlobals "octo_of" = some (some (.ref f5))) (l5 : K.lookup f5 = some ⟨oc5, od5, .func (PySem.W.fnOf "octo_of" "octo_of" (defArgs s_octo_of) (defBody s_octo_of) (defScope s_octo_of) .none kV5 dc5 pm5 an5 cd5 ct5), sl5⟩) (c5 : PySem.W.codeIn K cd5 "octo_of" = true) (k5 : PySem.W.keepIn K (.ref f5) = true)
    (a6 : PySem.W.nsIn K mainGlobals "is_octo" = some (some (.ref f6))) (l6 : K.lookup f6 = some ⟨oc6, od6, .func (PySem.W.fnOf "is_octo" "is_octo" (defArgs s_is_octo) (defBody s_is_octo) (defScope s_is_octo) .none kV6 dc6 pm6 an6 cd6 ct6), sl6⟩) (c6 : PySem.W.codeIn K cd6 "is_octo" = true) (k6 : PySem.W.keepIn K (.ref f6) = true)
    (a7 : PySem.W.nsIn K mainGlobals "all_met" = some (some (.ref f7))) (l7 : K.lookup f7 = some ⟨oc7, od7, .func (PySem.W.fnOf "all_met" "all_met" (defArgs s_all_met) (defBody s_all_met) (defScope s_all_met) .none kV7 dc7 pm7 an7 cd7 ct7), sl7⟩) (c7 : PySem.W.codeIn K cd7 "all_met" = true) (k7 : PySem.W.keepIn K (.ref f7) = true)
    (a8 : PySem.W.nsIn K mainGlobals "ends_met" = some (some (.ref f8))) (l8 : K.lookup f8 = some ⟨oc8, od8, .func (PySem.W.fnOf "ends_met" "ends_met" (defArgs s_ends_met) (defBody s_ends_met) (defScope s_ends_met) .none kV8 dc8 pm8 an8 cd8 ct8), sl8⟩) (c8 : PySem.W.codeIn K cd8 "ends_met" = true) (k8 : PySem.W.keepIn K (.ref f8) = true)
    (a9 : PySem.W.nsIn K mainGlobals "added" = some (some (.ref f9))) (l9 : K.lookup f9 = some ⟨oc9, od9, .func (PySem.W.fnOf "added" "added" (defArgs s_added) (defBody s_added) (defScope s_added) .none kV9 dc9 pm9 an9 cd9 ct9), sl9⟩) (c9 : PySem.W.codeIn K cd9 "added" = true) (k9 : PySem.W.keepIn K (.ref f9) = true)
    (a10 : PySem.W.nsIn K mainGlobals "moved" = some (some (.ref f10))) (l10 : K.lookup f10 = some ⟨oc10, od10, .func (PySem.W.fnOf "moved" "moved" (defArgs s_moved) (defBody s_moved) (defScope s_moved) .none kV10 dc10 pm10 an10 cd10 ct10), sl10⟩) (c10 : PySem.W.codeIn K cd10 "moved" = true) (k10 : PySem.W.keepIn K (.ref f10) = true)
    (a11 : PySem.W.nsIn K mainGlobals "quarters_in" = some (some (.ref f11))) (l11 : K.lookup f11 = some ⟨oc11, od11, .func (PySem.W.fnOf "quarters_in" "quarters_in" (defArgs s_quarters_in) (defBody s_quarters_in) (defScope s_quarters_in) .none kV11 dc11 pm11 an11 cd11 ct11), sl11⟩) (c11 : PySem.W.codeIn K cd11 "quarters_in" = true) (k11 : PySem.W.keepIn K (.ref f11) = true)
    (a12 : PySem.W.nsIn K mainGlobals "is_flat" = some (some (.ref f12))) (l12 : K.lookup f12 = some ⟨oc12, od12, .func (PySem.W.fnOf "is_flat" "is_flat" (defArgs s_is_flat) (defBody s_is_flat) (defScope s_is_flat) .none kV12 dc12 pm12 an12 cd12 ct12), sl12⟩) (c12 : PySem.W.codeIn K cd12 "is_flat" = true) (k12 : PySem.W.keepIn K (.ref f12) = true)
    (a13 : PySem.W.nsIn K mainGlobals "holds" = some (some (.ref f13))) (l13 : K.lookup f13 = some ⟨oc13, od13, .func (PySem.W.fnOf "holds" "holds" (defArgs s_holds) (defBody s_holds) (defScope s_holds) .none kV13 dc13 pm13 an13 cd13 ct13), sl13⟩) (c13 : PySem.W.codeIn K cd13 "holds" = true) (k13 : PySem.W.keepIn K (.ref f13) = true)
    (a14 : PySem.W.nsIn K mainGlobals "mark_of" = some (some (.ref f14))) (l14 : K.lookup f14 = some ⟨oc14, od14, .func (PySem.W.fnOf "mark_of" "mark_of" (defArgs s_mark_of) (defBody s_mark_of) (defScope s_mark_of) .none kV14 dc14 pm14 an14 cd14 ct14), sl14⟩) (c14 : PySem.W.codeIn K cd14 "mark_of" = true) (k14 : PySem.W.keepIn K (.ref f14) = true)
    (a15 : PySem.W.nsIn K mainGlobals "swept" = some (some (.ref f15))) (l15 : K.lookup f15 = some ⟨oc15, od15, .func (PySem.W.fnOf "swept" "swept" (defArgs s_swept) (defBody s_swept) (defScope s_swept) .none kV15 dc15 pm15 an15 cd15 ct15), sl15⟩) (c15 : PySem.W.codeIn K cd15 "swept" = true) (k15 : PySem.W.keepIn K (.ref f15) = true)
    (a16 : PySem.W.nsIn K mainGlobals "_law_begin" = some (some (.ref f16))) (l16 : K.lookup f16 = some ⟨oc16, od16, .func (PySem.W.fnOf "_law_begin" "_law_begin" (defArgs s_begin) (defBody s_begin) (defScope s_begin) .none kV16 dc16 pm16 an16 cd16 ct16), sl16⟩) (c16 : PySem.W.codeIn K cd16 "_law_begin" = true) (k16 : PySem.W.keepIn K (.ref f16) = true)
    (a17 : PySem.W.nsIn K mainGlobals "_law_take" = some (some (.ref f17))) (l17 : K.lookup f17 = some ⟨oc17, od17, .func (PySem.W.fnOf "_law_take" "_law_take" (defArgs s_take) (defBody s_take) (defScope s_take) .none kV17 dc17 pm17 an17 cd17 ct17), sl17⟩) (c17 : PySem.W.codeIn K cd17 "_law_take" = true) (k17 : PySem.W.keepIn K (.ref f17) = true)
    (a18 : PySem.W.nsIn K mainGlobals "_law_same" = some (some (.ref f18))) (l18 : K.lookup f18 = some ⟨oc18, od18, .func (PySem.W.fnOf "_law_same" "_law_same" (defArgs s_same) (defBody s_same) (defScope s_same) .none kV18 dc18 pm18 an18 cd18 ct18), sl18⟩) (c18 : PySem.W.codeIn K cd18 "_law_same" = true) (k18 : PySem.W.keepIn K (.ref f18) = true)
    (a19 : PySem.W.nsIn K mainGlobals "_law_tool" = some (some (.ref f19))) (l19 : K.lookup f19 = some ⟨oc19, od19, .func (PySem.W.fnOf "_law_tool" "_law_tool" (defArgs s_tool) (defBody s_tool) (defScope s_tool) .none kV19 dc19 pm19 an19 cd19 ct19), sl19⟩) (c19 : PySem.W.codeIn K cd19 "_law_tool" = true) (k19 : PySem.W.keepIn K (.ref f19) = true)
    (a20 : PySem.W.nsIn K mainGlobals "_law_mark" = some (some (.ref f20))) (l20 : K.lookup f20 = some ⟨oc20, od20, .func (PySem.W.fnOf "_law_mark" "_law_mark" (defArgs s_mark) (defBody s_mark) (defScope s_mark) .none kV20 dc20 pm20 an20 cd20 ct20), sl20⟩) (c20 : PySem.W.codeIn K cd20 "_law_mark" = true) (k20 : PySem.W.keepIn K (.ref f20) = true)
    (a21 : PySem.W.nsIn K mainGlobals "_law_in_mark" = some (some (.ref f21))) (l21 : K.lookup f21 = some ⟨oc21, od21, .func (PySem.W.fnOf "_law_in_mark" "_law_in_mark" (defArgs s_in_mark) (defBody s_in_mark) (defScope s_in_mark) .none kV21 dc21 pm21 an21 cd21 ct21), sl21⟩) (c21 : PySem.W.codeIn K cd21 "_law_in_mark" = true) (k21 : PySem.W.keepIn K (.ref f21) = true)
    (a22 : PySem.W.nsIn K mainGlobals "law" = some (some (.ref f22))) (l22 : K.lookup f22 = some ⟨oc22, od22, .func (PySem.W.fnOf "law" "law" (defArgs s_law) (defBody s_law) (defScope s_law) .none kV22 dc22 pm22 an22 cd22 ct22), sl22⟩) (c22 : PySem.W.codeIn K cd22 "law" = true) (k22 : PySem.W.keepIn K (.ref f22) = true)
    (z0 : PySem.W.nsIn K mainGlobals "len" = some none)
    (z1 : PySem.W.nsIn K mainGlobals "list" = some none)
    (z2 : PySem.W.nsIn K mainGlobals "divmod" = some none)
    (z3 : PySem.W.nsIn K mainGlobals "isinstance" = some none)
    (z4 : PySem.W.nsIn K mainGlobals "dict" = some none)
    (z5 : PySem.W.nsIn K mainGlobals "tuple" = some none)
    (z6 : PySem.W.nsIn K mainGlobals "str" = some none)
    (z7 : PySem.W.nsIn K mainGlobals "int" = some none)
    (z8 : PySem.W.nsIn K mainGlobals "bool" = some none)
    (z9 : PySem.W.nsIn K mainGlobals "all" = some none)
    (z10 : PySem.W.nsIn K mainGlobals "any" = some none)
    (z11 : PySem.W.nsIn K mainGlobals "zip" = some none)
    (z12 : PySem.W.nsIn K mainGlobals "range" = some none)
    (z13 : PySem.W.nsIn K mainGlobals "max" = some none)
    (z14 : PySem.W.nsIn K mainGlobals "min" = some none)
    (z15 : PySem.W.nsIn K mainGlobals "abs" = some none)
    (z16 : PySem.W.nsIn K mainGlobals "sum" = some none)
    (z17 : PySem.W.nsIn K mainGlobals "sorted" = some none)
    (z18 : PySem.W.nsIn K mainGlobals "enumerate" = some none)
    (z19 : PySem.W.nsIn K mainGlobals "set" = some none)
    (gS : PySem.W.nsIn K mainGlobals "INNER" = some (some (.ref aS))) (lS : K.lookup aS = some ⟨.type "tuple", dS, .seq #[.ref cp0, .ref cp1, .ref cp2, .ref cp3] nS, slS⟩)
    (cq0 : K.lookup cp0 = some ⟨.type "tuple", cd0_, .seq #[.int (3) ct0_, .int (2) cu0_] cn0_, cs0_⟩)
    (cq1 : K.lookup cp1 = some ⟨.type "tuple", cd1_, .seq #[.int (2) ct1_, .int (3) cu1_] cn1_, cs1_⟩)
    (cq2 : K.lookup cp2 = some ⟨.type "tuple", cd2_, .seq #[.int (1) ct2_, .int (2) cu2_] cn2_, cs2_⟩)
    (cq3 : K.lookup cp3 = some ⟨.type "tuple", cd3_, .seq #[.int (2) ct3_, .int (1) cu3_] cn3_, cs3_⟩)
    : ∃ fd : FuncData, (∀ (s : Shared) (v : Value), BindsTo s fd ⟨[v], []⟩ [("_law_script", v)]) ∧ ∀ base : Heap, K.In base → base.Ns mainGlobals mg → FnOk l.prog w K mg base CX0 5 fa fd ["_law_script"] (spLaw K) := by
  have e := hfa.symm.trans (PySem.W.mg_of X G a22)
  cases e
  have T : Txt mg := ⟨PySem.W.mg_none_of X G z0, PySem.W.mg_none_of X G z1, PySem.W.mg_none_of X G z2, PySem.W.mg_none_of X G z3, PySem.W.mg_none_of X G z4, PySem.W.mg_none_of X G z5, PySem.W.mg_none_of X G z6, PySem.W.mg_none_of X G z7, PySem.W.mg_none_of X G z8, PySem.W.mg_none_of X G z9, PySem.W.mg_none_of X G z10, PySem.W.mg_none_of X G z11, PySem.W.mg_none_of X G z12, PySem.W.mg_none_of X G z13, PySem.W.mg_none_of X G z14, PySem.W.mg_none_of X G z15, PySem.W.mg_none_of X G z16, PySem.W.mg_none_of X G z17, PySem.W.mg_none_of X G z18, PySem.W.mg_none_of X G z19⟩
  have F1 := fun_mk (st := s_is_number) l1 c1 k1
  have D_is_number : Dfn K mg "is_number" s_is_number ["thing"] := ⟨f1, _, F1, PySem.W.mg_of X G a1, F1.binds (ps := ["thing"]) fun _ _ _ _ _ _ us hl => match us, hl with | [_], _ => rfl⟩
  have F2 := fun_mk (st := s_is_row) l2 c2 k2
  have D_is_row : Dfn K mg "is_row" s_is_row ["thing"] := ⟨f2, _, F2, PySem.W.mg_of X G a2, F2.binds (ps := ["thing"]) fun _ _ _ _ _ _ us hl => match us, hl with | [_], _ => rfl⟩
  have F3 := fun_mk (st := s_are_numbers) l3 c3 k3
  have D_are_numbers : Dfn K mg "are_numbers" s_are_numbers ["thing", "many"] := ⟨f3, _, F3, PySem.W.mg_of X G a3, F3.binds (ps := ["thing", "many"]) fun _ _ _ _ _ _ us hl => match us, hl with | [_, _], _ => rfl⟩
  have F4 := fun_mk (st := s_inner_point) l4 c4 k4
  have D_inner_point : Dfn K mg "inner_point" s_inner_point ["quarter"] := ⟨f4, _, F4, PySem.W.mg_of X G a4, F4.binds (ps := ["quarter"]) fun _ _ _ _ _ _ us hl => match us, hl with | [_], _ => rfl⟩
  have F5 := fun_mk (st := s_octo_of) l5 c5 k5
  have D_octo_of : Dfn K mg "octo_of" s_octo_of ["corners"] := ⟨f5, _, F5, PySem.W.mg_of X G a5, F5.binds (ps := ["corners"]) fun _ _ _ _ _ _ us hl => match us, hl with | [_], _ => rfl⟩
  have F6 := fun_mk (st := s_is_octo) l6 c6 k6
  have D_is_octo : Dfn K mg "is_octo" s_is_octo ["thing"] := ⟨f6, _, F6, PySem.W.mg_of X G a6, F6.binds (ps := ["thing"]) fun _ _ _ _ _ _ us hl => match us, hl with | [_], _ => rfl⟩
  have F7 := fun_mk (st := s_all_met) l7 c7 k7
  have D_all_met : Dfn K mg "all_met" s_all_met ["w", "e", "s", "n", "a", "b", "c", "d"] := ⟨f7, _, F7, PySem.W.mg_of X G a7, F7.binds (ps := ["w", "e", "s", "n", "a", "b", "c", "d"]) fun _ _ _ _ _ _ us hl => match us, hl with | [_, _, _, _, _, _, _, _], _ => rfl⟩
  have F8 := fun_mk (st := s_ends_met) l8 c8 k8
  have D_ends_met : Dfn K mg "ends_met" s_ends_met ["w", "e", "s", "n", "a", "b", "c", "d"] := ⟨f8, _, F8, PySem.W.mg_of X G a8, F8.binds (ps := ["w", "e", "s", "n", "a", "b", "c", "d"]) fun _ _ _ _ _ _ us hl => match us, hl with | [_, _, _, _, _, _, _, _], _ => rfl⟩
  have F9 := fun_mk (st := s_added) l9 c9 k9
  have D_added : Dfn K mg "added" s_added ["one", "other"] := ⟨f9, _, F9, PySem.W.mg_of X G a9, F9.binds (ps := ["one", "other"]) fun _ _ _ _ _ _ us hl => match us, hl with | [_, _], _ => rfl⟩
  have F10 := fun_mk (st := s_moved) l10 c10 k10
  have D_moved : Dfn K mg "moved" s_moved ["octo", "corner"] := ⟨f10, _, F10, PySem.W.mg_of X G a10, F10.binds (ps := ["octo", "corner"]) fun _ _ _ _ _ _ us hl => match us, hl with | [_, _], _ => rfl⟩
  have F11 := fun_mk (st := s_quarters_in) l11 c11 k11
  have D_quarters_in : Dfn K mg "quarters_in" s_quarters_in ["octo"] := ⟨f11, _, F11, PySem.W.mg_of X G a11, F11.binds (ps := ["octo"]) fun _ _ _ _ _ _ us hl => match us, hl with | [_], _ => rfl⟩
  have F12 := fun_mk (st := s_is_flat) l12 c12 k12
  have D_is_flat : Dfn K mg "is_flat" s_is_flat ["octo"] := ⟨f12, _, F12, PySem.W.mg_of X G a12, F12.binds (ps := ["octo"]) fun _ _ _ _ _ _ us hl => match us, hl with | [_], _ => rfl⟩
  have F13 := fun_mk (st := s_holds) l13 c13 k13
  have D_holds : Dfn K mg "holds" s_holds ["octo", "quarter"] := ⟨f13, _, F13, PySem.W.mg_of X G a13, F13.binds (ps := ["octo", "quarter"]) fun _ _ _ _ _ _ us hl => match us, hl with | [_, _], _ => rfl⟩
  have F14 := fun_mk (st := s_mark_of) l14 c14 k14
  have D_mark_of : Dfn K mg "mark_of" s_mark_of ["tool", "corner"] := ⟨f14, _, F14, PySem.W.mg_of X G a14, F14.binds (ps := ["tool", "corner"]) fun _ _ _ _ _ _ us hl => match us, hl with | [_, _], _ => rfl⟩
  have F15 := fun_mk (st := s_swept) l15 c15 k15
  have D_swept : Dfn K mg "swept" s_swept ["tool", "one", "other"] := ⟨f15, _, F15, PySem.W.mg_of X G a15, F15.binds (ps := ["tool", "one", "other"]) fun _ _ _ _ _ _ us hl => match us, hl with | [_, _, _], _ => rfl⟩
  have F16 := fun_mk (st := s_begin) l16 c16 k16
  have D_begin : Dfn K mg "_law_begin" s_begin ["_law_script"] := ⟨f16, _, F16, PySem.W.mg_of X G a16, F16.binds (ps := ["_law_script"]) fun _ _ _ _ _ _ us hl => match us, hl with | [_], _ => rfl⟩
  have F17 := fun_mk (st := s_take) l17 c17 k17
  have D_take : Dfn K mg "_law_take" s_take ["_law_state", "_law_many"] := ⟨f17, _, F17, PySem.W.mg_of X G a17, F17.binds (ps := ["_law_state", "_law_many"]) fun _ _ _ _ _ _ us hl => match us, hl with | [_, _], _ => rfl⟩
  have F18 := fun_mk (st := s_same) l18 c18 k18
  have D_same : Dfn K mg "_law_same" s_same ["_law_found", "_law_due"] := ⟨f18, _, F18, PySem.W.mg_of X G a18, F18.binds (ps := ["_law_found", "_law_due"]) fun _ _ _ _ _ _ us hl => match us, hl with | [_, _], _ => rfl⟩
  have F19 := fun_mk (st := s_tool) l19 c19 k19
  have D_tool : Dfn K mg "_law_tool" s_tool ["_law_state", "_law_most"] := ⟨f19, _, F19, PySem.W.mg_of X G a19, F19.binds (ps := ["_law_state", "_law_most"]) fun _ _ _ _ _ _ us hl => match us, hl with | [_, _], _ => rfl⟩
  have F20 := fun_mk (st := s_mark) l20 c20 k20
  have D_mark : Dfn K mg "_law_mark" s_mark ["_law_tool_here", "_law_corner"] := ⟨f20, _, F20, PySem.W.mg_of X G a20, F20.binds (ps := ["_law_tool_here", "_law_corner"]) fun _ _ _ _ _ _ us hl => match us, hl with | [_, _], _ => rfl⟩
  have F21 := fun_mk (st := s_in_mark) l21 c21 k21
  have D_in_mark : Dfn K mg "_law_in_mark" s_in_mark ["_law_tool_here", "_law_x", "_law_y", "_law_side"] := ⟨f21, _, F21, PySem.W.mg_of X G a21, F21.binds (ps := ["_law_tool_here", "_law_x", "_law_y", "_law_side"]) fun _ _ _ _ _ _ us hl => match us, hl with | [_, _, _, _], _ => rfl⟩
  have F22 := fun_mk (st := s_law) l22 c22 k22
  refine ⟨PySem.W.fnOf "law" "law" (defArgs s_law) (defBody s_law) (defScope s_law) .none kV22 dc22 pm22 an22 cd22 ct22, fun s v => .of_eq rfl, fun base _ _ => ?_⟩
  have two : ∀ {p : Addr} {d : Option Addr} {n : Nat} {s : Array (Option Value)} {a b : Int} {t u : Tok}, K.lookup p = some ⟨.type "tuple", d, .seq #[.int a t, .int b u] n, s⟩ → ∀ H : Hp, SqT K H p [.int a, .int b] :=
    fun {p d n s a b t u} q H => .inr ⟨_, _, n, q, rfl, rfl, (by show 2 ≤ sizeLine; decide), .cons ⟨t, rfl⟩ (.cons ⟨u, rfl⟩ .nil)⟩
  have C_INNER : InnerAt K mg aS := by
    refine ⟨PySem.W.mg_of X G gS, fun H => ⟨[.ref cp0, .ref cp1, .ref cp2, .ref cp3], .inr ⟨_, _, nS, lS, rfl, rfl, (by show 4 ≤ sizeLine; decide), (.cons rfl (.cons rfl (.cons rfl (.cons rfl .nil))))⟩, fun i hi => ?_⟩⟩
    match i, hi with
    | 0, _ => exact ⟨cp0, rfl, two cq0 H⟩
    | 1, _ => exact ⟨cp1, rfl, two cq1 H⟩
    | 2, _ => exact ⟨cp2, rfl, two cq2 H⟩
    | 3, _ => exact ⟨cp3, rfl, two cq3 H⟩
  have G_take : Cal l.prog w K mg base 1 "_law_take" ["_law_state", "_law_many"] spTake := D_take.cal fun _ _ F => ok_take F T
  have G_begin : Cal l.prog w K mg base 1 "_law_begin" ["_law_script"] (spBegin K) := D_begin.cal fun _ _ F => ok_begin F T
  have G_octo_of : Cal l.prog w K mg base 1 "octo_of" ["corners"] (spOctoOf K) := D_octo_of.cal fun _ _ F => ok_octo_of F T
  have G_added : Cal l.prog w K mg base 1 "added" ["one", "other"] (spAdded K) := D_added.cal fun _ _ F => ok_added F T
  have G_moved : Cal l.prog w K mg base 2 "moved" ["octo", "corner"] (spMoved K) := D_moved.cal fun _ _ F => ok_moved F G_added G_octo_of
  have G_inner : Cal l.prog w K mg base 1 "inner_point" ["quarter"] (spInner K) := D_inner_point.cal fun _ _ F => ok_inner F C_INNER
  have G_holds : Cal l.prog w K mg base 2 "holds" ["octo", "quarter"] (spHolds K) := D_holds.cal fun _ _ F => ok_holds F G_inner
  have G_flat : Cal l.prog w K mg base 1 "is_flat" ["octo"] (spFlat K) := D_is_flat.cal fun _ _ F => ok_flat F
  have G_num : Cal l.prog w K mg base 1 "is_number" ["thing"] (spNum K) := D_is_number.cal fun _ _ F => ok_num F T
  have G_row : Cal l.prog w K mg base 1 "is_row" ["thing"] (spRow K) := D_is_row.cal fun _ _ F => ok_row F T
  have G_nums : Cal l.prog w K mg base 2 "are_numbers" ["thing", "many"] (spNums K) := D_are_numbers.cal fun _ _ F => ok_nums F T G_row G_num
  have G_ends : Cal l.prog w K mg base 1 "ends_met" ["w", "e", "s", "n", "a", "b", "c", "d"] (sp8 Ends) := D_ends_met.cal fun _ _ F => ok_ends F T
  have G_met : Cal l.prog w K mg base 2 "all_met" ["w", "e", "s", "n", "a", "b", "c", "d"] (sp8 Met) := D_all_met.cal fun _ _ F => ok_met F G_ends
  have G_is_octo : Cal l.prog w K mg base 3 "is_octo" ["thing"] (spIsOcto K) := D_is_octo.cal fun _ _ F => ok_is_octo F T G_nums G_met
  have G_quarters_in : Cal l.prog w K mg base 3 "quarters_in" ["octo"] (spQuartersQ K) := D_quarters_in.cal fun _ _ F => ok_quarters_in F T G_flat G_holds
  have G_mark_of : Cal l.prog w K mg base 3 "mark_of" ["tool", "corner"] (spMark K) := D_mark_of.cal fun _ _ F => ok_mark F G_moved
  have G_swept : Cal l.prog w K mg base 4 "swept" ["tool", "one", "other"] (spSwept K) := D_swept.cal fun _ _ F => ok_swept F G_added G_octo_of G_mark_of
  have G_tool : Cal l.prog w K mg base 2 "_law_tool" ["_law_state", "_law_most"] spLTool := D_tool.cal fun _ _ F => ok_ltool F G_take
  have G_in_mark : Cal l.prog w K mg base 1 "_law_in_mark" ["_law_tool_here", "_law_x", "_law_y", "_law_side"] (spInMark K) := D_in_mark.cal fun _ _ F => ok_in_mark F T
  have G_mark : Cal l.prog w K mg base 2 "_law_mark" ["_law_tool_here", "_law_corner"] (spLMark K) := D_mark.cal fun _ _ F => ok_lmark F T G_in_mark
  exact ok_law F22 T G_begin G_take G_tool G_mark G_mark_of G_swept G_is_octo G_quarters_in (cal_same D_same T 3)
theorem walk {l : PySem.W.OpenLaw} {q : Program} {loose : List Str} {XP : (Str → Option Value) → Heap → Prop} {YP : World → Heap → Prop} {d : DefRec} {K : Params → PySem.W.Frag} (hn : l.most = some 63) (hdf : d.params.defaults = [])
    (hY : ∀ (w : World) (h : Heap), YP w h → (K w.params).In h)
    (F : ∀ (w : World) (mg : Str → Option Value) (fa : Addr) (h : Heap), (K w.params).In h → h.Ns mainGlobals mg → mg d.name = some (.ref fa) →
      ∃ fd : FuncData, (∀ (s : Shared) (u : Value), BindsTo s fd ⟨[u], []⟩ [("_law_script", u)]) ∧ ∀ base : Heap, (K w.params).In base → base.Ns mainGlobals mg → FnOk l.prog w (K w.params) mg base CX0 5 fa fd ["_law_script"] (spLaw (K w.params))) :
    PySem.W.WalkO q loose XP YP l.row.toRowW d [] (fun f vs => PySem.call f vs) :=
  L2.walk_of (n := 63) (k := 5) (x := "_law_script") (CX := fun _ => CX0) (sp := fun w => spLaw (K w.params)) hn (by decide) hdf ⟨rfl, by decide, by decide⟩ hY F (fun _ _ a ns hl _ hS => ⟨a, ns, rfl, hS, hl, fun _ => rfl⟩) fun _ _ _ _ _ z => z
end Mp
open PySem PySem.W PyProof.Rows
set_option maxRecDepth 100000 in
set_option maxHeartbeats 0 in
theorem PySem.Challenge.cw_millpath_k18_marks_and_ways_holds : PySem.Challenge.rw_millpath_k18_marks_and_ways.Holds := by
  w_on; o_law; k_head; (case hw => w_witness2)
  k_fill
  refine Mp.walk (l := PySem.Challenge.rw_millpath_k18_marks_and_ways) rfl rfl (fun w h Y => PySem.W.kIn_of Y) ?F
  case F =>
    intro w mg fa h KX G hmg
    refine' Mp.all_mk KX G hmg ?a1 ?l1 ?c1 ?k1 ?a2 ?l2 ?c2 ?k2 ?a3 ?l3 ?c3 ?k3 ?a4 ?l4 ?c4 ?k4 ?a5 ?l5 ?c5 ?k5 ?a6 ?l6 ?c6 ?k6 ?a7 ?l7 ?c7 ?k7 ?a8 ?l8 ?c8 ?k8 ?a9 ?l9 ?c9 ?k9 ?a10 ?l10 ?c10 ?k10 ?a11 ?l11 ?c11 ?k11 ?a12 ?l12 ?c12 ?k12 ?a13 ?l13 ?c13 ?k13 ?a14 ?l14 ?c14 ?k14 ?a15 ?l15 ?c15 ?k15 ?a16 ?l16 ?c16 ?k16 ?a17 ?l17 ?c17 ?k17 ?a18 ?l18 ?c18 ?k18 ?a19 ?l19 ?c19 ?k19 ?a20 ?l20 ?c20 ?k20 ?a21 ?l21 ?c21 ?k21 ?a22 ?l22 ?c22 ?k22 ?z0 ?z1 ?z2 ?z3 ?z4 ?z5 ?z6 ?z7 ?z8 ?z9 ?z10 ?z11 ?z12 ?z13 ?z14 ?z15 ?z16 ?z17 ?z18 ?z19 ?gS ?lS ?cq0 ?cq1 ?cq2 ?cq3
    (case a1 => k_is)
    (case l1 => k_is)
    (case c1 => k_is)
    (case k1 => k_is)
    (case a2 => k_is)
    (case l2 => k_is)
    (case c2 => k_is)
    (case k2 => k_is)
    (case a3 => k_is)
    (case l3 => k_is)
    (case c3 => k_is)
    (case k3 => k_is)
    (case a4 => k_is)
    (case l4 => k_is)
    (case c4 => k_is)
    (case k4 => k_is)
    (case a5 => k_is)
    (case l5 => k_is)
    (case c5 => k_is)
    (case k5 => k_is)
    (case a6 => k_is)
    (case l6 => k_is)
    (case c6 => k_is)
    (case k6 => k_is)
    (case a7 => k_is)
    (case l7 => k_is)
    (case c7 => k_is)
    (case k7 => k_is)
    (case a8 => k_is)
    (case l8 => k_is)
    (case c8 => k_is)
    (case k8 => k_is)
    (case a9 => k_is)
    (case l9 => k_is)
    (case c9 => k_is)
    (case k9 => k_is)
    (case a10 => k_is)
    (case l10 => k_is)
    (case c10 => k_is)
    (case k10 => k_is)
    (case a11 => k_is)
    (case l11 => k_is)
    (case c11 => k_is)
    (case k11 => k_is)
    (case a12 => k_is)
    (case l12 => k_is)
    (case c12 => k_is)
    (case k12 => k_is)
    (case a13 => k_is)
    (case l13 => k_is)
    (case c13 => k_is)
    (case k13 => k_is)
    (case a14 => k_is)
    (case l14 => k_is)
    (case c14 => k_is)
    (case k14 => k_is)
    (case a15 => k_is)
    (case l15 => k_is)
    (case c15 => k_is)
    (case k15 => k_is)
    (case a16 => k_is)
    (case l16 => k_is)
    (case c16 => k_is)
    (case k16 => k_is)
    (case a17 => k_is)
    (case l17 => k_is)
    (case c17 => k_is)
    (case k17 => k_is)
    (case a18 => k_is)
    (case l18 => k_is)
    (case c18 => k_is)
    (case k18 => k_is)
    (case a19 => k_is)
    (case l19 => k_is)
    (case c19 => k_is)
    (case k19 => k_is)
    (case a20 => k_is)
    (case l20 => k_is)
    (case c20 => k_is)
    (case k20 => k_is)
    (case a21 => k_is)
    (case l21 => k_is)
    (case c21 => k_is)
    (case k21 => k_is)
    (case a22 => k_is)
    (case l22 => k_is)
    (case c22 => k_is)
    (case k22 => k_is)
    (case z0 => k_is)
    (case z1 => k_is)
    (case z2 => k_is)
    (case z3 => k_is)
    (case z4 => k_is)
    (case z5 => k_is)
    (case z6 => k_is)
    (case z7 => k_is)
    (case z8 => k_is)
    (case z9 => k_is)
    (case z10 => k_is)
    (case z11 => k_is)
    (case z12 => k_is)
    (case z13 => k_is)
    (case z14 => k_is)
    (case z15 => k_is)
    (case z16 => k_is)
    (case z17 => k_is)
    (case z18 => k_is)
    (case z19 => k_is)
    (case gS => k_is)
    (case lS => k_is)
    (case cq0 => k_is)
    (case cq1 => k_is)
    (case cq2 => k_is)
    (case cq3 => k_is)

