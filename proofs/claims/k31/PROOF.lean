import PyProof.Rows.All
import Wide.All
import OpenK.AllK
import Wide.FinOn
import Lean
import PyProof.EqAt
import PyProof.EqKinds
import PyProof.TupleCall
import PyProof.ZipIter
import PyProof.NeKinds
import PyProof.SeqI3
import PyProof.MaxThree
import PyProof.CompUse
import PyProof.EnumMake
import PyProof.Draws
import PyProof.EnumFor
import PyProof.Rows.EnumRows
import PyProof.DictFindH
import PyProof.DictRoadsH
import PyProof.TupleKey
import PyProof.DictWalks
import PyProof.AttrMissHeap
import KE.KDictOf
import PyProof.Rows.SortRuns
import KE.KSortTup
import KE.KDictList
import PySem.Challenge.RW_millpath_k31_cut_by_the_grain
set_option Elab.async false
set_option linter.all false
set_option maxRecDepth 100000
/-! THE HAND LAYER, for ints, bools, texts, own classes, LISTS and tuples (index, slices, in, append, pop ..), calls, loops. Paste it whole ahead of your own text; what your proof does not reach may be deleted. -/
namespace L2
open PySem PySem.Spec PyProof.Rows

/-- a key: an int or a str -/
abbrev Key := Sum Int Str
def keyIs : Key → Value → Bool
  | .inl k, v => Value.isInt k v
  | .inr x, v => Value.isStrOf x v
def keyH (w : World) : Key → Int
  | .inl k => hashInt k
  | .inr x => hashStr w x
theorem keyIs_shape : ∀ {k : Key} {v : Value}, keyIs k v = true → (∃ i t, k = Sum.inl i ∧ v = Value.int i t) ∨ (∃ x t, k = Sum.inr x ∧ v = Value.str x t)
  | .inl i, v, h => by
    obtain ⟨t, e⟩ := Value.isInt_shape (k := i) (v := v) h
    exact .inl ⟨i, t, rfl, e⟩
  | .inr x, v, h => by
    obtain ⟨t, e⟩ := Value.isStrOf_shape (x := x) (v := v) h
    exact .inr ⟨x, t, rfl, e⟩
theorem keyIs_int (i : Int) (t : Tok) : keyIs (.inl i) (.int i t) = true := by simp [keyIs, Value.isInt]
theorem keyIs_str (x : Str) (t : Tok) : keyIs (.inr x) (.str x t) = true := by simp [keyIs, Value.isStrOf]
theorem key_ll (a b : Int) : decide ((Sum.inl a : Key) = Sum.inl b) = (a == b) := by
  by_cases e : a = b
  · subst e; simp
  · have h : ¬ (Sum.inl a : Key) = Sum.inl b := fun q => e (Sum.inl.inj q)
    rw [decide_eq_false h]
    exact (beq_eq_false_iff_ne.mpr e).symm
theorem key_rr (a b : Str) : decide ((Sum.inr a : Key) = Sum.inr b) = decide (a = b) := by
  by_cases e : a = b
  · subst e; simp
  · have h : ¬ (Sum.inr a : Key) = Sum.inr b := fun q => e (Sum.inr.inj q)
    rw [decide_eq_false h, decide_eq_false e]
theorem key_lr (a : Int) (b : Str) : decide ((Sum.inl a : Key) = Sum.inr b) = false := decide_eq_false (fun q => nomatch q)
theorem key_rl (a : Str) (b : Int) : decide ((Sum.inr a : Key) = Sum.inl b) = false := decide_eq_false (fun q => nomatch q)

def mixKind (prog : Program) (w : World) : PySem.KeyKind prog w Key where
  is := keyIs
  hash := keyH w
  inj := fun v a b ha hb => by
    rcases keyIs_shape ha with ⟨i, t, rfl, rfl⟩ | ⟨x, t, rfl, rfl⟩
    · rcases keyIs_shape hb with ⟨j, u, rfl, e⟩ | ⟨y, u, rfl, e⟩
      · injection e with e1 _; rw [e1]
      · exact nomatch e
    · rcases keyIs_shape hb with ⟨j, u, rfl, e⟩ | ⟨y, u, rfl, e⟩
      · exact nomatch e
      · injection e with e1 _; rw [e1]
  byValue := fun k v h => by
    rcases keyIs_shape h with ⟨i, t, rfl, rfl⟩ | ⟨x, t, rfl, rfl⟩ <;> rfl
  pyHash := fun hv h => by
    rcases keyIs_shape hv with ⟨i, t, rfl, rfl⟩ | ⟨x, t, rfl, rfl⟩
    · exact wpAny_pyHash_int h
    · exact wpAny_pyHash_str h
  eqBool := fun hu hv h => by
    rcases keyIs_shape hu with ⟨i, t, rfl, rfl⟩ | ⟨x, t, rfl, rfl⟩
    · rcases keyIs_shape hv with ⟨j, u, rfl, rfl⟩ | ⟨y, u, rfl, rfl⟩
      · rw [key_ll] at h; exact wpAny_eqBool_int h
      · rw [key_lr] at h; exact SeqAt.EqAt.int_str i t y u _ _ _ _ h
    · rcases keyIs_shape hv with ⟨j, u, rfl, rfl⟩ | ⟨y, u, rfl, rfl⟩
      · rw [key_rl] at h; exact SeqAt.EqAt.str_int x t j u _ _ _ _ h
      · rw [key_rr] at h; exact wpAny_eqBool_str h
  «strs» := fun k x t v h => by
    rcases keyIs_shape h with ⟨i, u, rfl, e⟩ | ⟨y, u, rfl, e⟩
    · exact nomatch e
    · injection e with e1 _
      subst e1
      cases v <;> rfl

theorem mixKind_int (prog : Program) (w : World) (i : Int) (t : Tok) : (mixKind prog w).is (.inl i) (.int i t) = true := keyIs_int i t
theorem mixKind_str (prog : Program) (w : World) (x : Str) (t : Tok) : (mixKind prog w).is (.inr x) (.str x t) = true := keyIs_str x t
end L2

namespace L2
open PySem PySem.Spec PyProof.Rows

/-- a value, without the heap -/
inductive V where
  | non | bl (b : Bool) | int (i : Int) | str (x : Str) | byt (b : Array UInt8) | flt (b : UInt64) | ref (a : Addr) | ty (n : String)
  deriving DecidableEq

def RelV : V → Value → Prop
  | .non, u => u = Value.none
  | .bl b, u => u = Value.bool b
  | .int i, u => ∃ t, u = Value.int i t
  | .str x, u => ∃ t, u = Value.str x t
  | .byt b, u => ∃ t, u = Value.bytes b t
  | .flt b, u => ∃ t, u = Value.float b t
  | .ref a, u => u = Value.ref a
  | .ty n, u => u = Value.type n

abbrev Vals : List V → List Value → Prop := Paired RelV
theorem Vals.length {xs : List V} {us : List Value} (r : Vals xs us) : xs.length = us.length := Paired.length r
theorem Vals.get : ∀ {xs : List V} {us : List Value} {i : Nat} {x : V}, Vals xs us → xs[i]? = some x → ∃ u, us[i]? = some u ∧ RelV x u
  | _, _, _, _, .nil, e => by simp at e
  | _, _, 0, _, .cons r _, e => by simp at e; subst e; exact ⟨_, rfl, r⟩
  | _, _, i + 1, x, .cons _ t, e => by
    obtain ⟨u, h1, h2⟩ := Vals.get (i := i) (x := x) t (by simpa using e)
    exact ⟨u, by simpa using h1, h2⟩
theorem Vals.set {x : V} {u : Value} (r : RelV x u) : ∀ {xs : List V} {us : List Value} (i : Nat), Vals xs us → Vals (xs.set i x) (us.set i u)
  | _, _, _, .nil => .nil
  | _, _, 0, .cons _ t => .cons r t
  | _, _, i + 1, .cons q t => .cons q (Vals.set r i t)
theorem Vals.append : ∀ {xs ys : List V} {us ws : List Value}, Vals xs us → Vals ys ws → Vals (xs ++ ys) (us ++ ws)
  | _, _, _, _, .nil, s => s
  | _, _, _, _, .cons r t, s => .cons r (Vals.append t s)
theorem Vals.take : ∀ {xs : List V} {us : List Value} (n : Nat), Vals xs us → Vals (xs.take n) (us.take n)
  | _, _, 0, _ => .nil
  | _, _, _ + 1, .nil => .nil
  | _, _, n + 1, .cons r t => .cons r (Vals.take n t)
theorem Vals.drop : ∀ {xs : List V} {us : List Value} (n : Nat), Vals xs us → Vals (xs.drop n) (us.drop n)
  | _, _, 0, r => r
  | _, _, _ + 1, .nil => .nil
  | _, _, n + 1, .cons _ t => Vals.drop n t
def RelO : Option V → Option Value → Prop
  | some v, some u => RelV v u
  | none, none => True
  | _, _ => False
def KV {κ : Type} : List (κ × V) → List (κ × Value) → Prop := Paired fun (p : κ × V) (q : κ × Value) => p.1 = q.1 ∧ RelV p.2 q.2

/-- a key of a dict (00_mix): an int or a text -/
def kV : Key → V
  | .inl i => .int i
  | .inr x => .str x

/-- what stands at a tracked address -/
inductive HO where
  /-- a list -/
  | lst (xs : List V)
  /-- a tuple (never changes) -/
  | tup (xs : List V)
  /-- a dict whose keys are ints and texts; one whose keys are tuples of ints and texts (the empty one is both) -/
  | dK (kvs : List (Key × V)) | dT (kvs : List (List Key × V))
  /-- a set of ints: its members, its size -/
  | set (S : Int → Bool) (n : Nat)
  /-- an instance of the class at C, its dict at dx, its attributes -/
  | ins (C dx : Addr) (fs : List (Str × V))
  /-- the dict of the instance at x -/
  | own (x : Addr)
  /-- the dict of an exception -/
  | xd (fs : List (Str × V))
  /-- a bound method, f of x -/
  | met (f x : Addr)
  /-- a range object lo, lo + 1, .. below hi -/
  | rng (lo hi : Int)
  /-- a thing that is known to the object (the script; a dict while a loop walks it): read, never written while it is so -/
  | frz (o : Obj) (u : HO)
  /-- a code object's table -/
  | tbl (ps : Array Value)
  /-- any other thing, by what is true of its one object (a def of one's own: SetO a S n := HO.ext fun h => ..) -/
  | ext (φ : Heap → Prop)

abbrev Hp := Addr → Option HO
def upd (H : Hp) (a : Addr) (o : HO) : Hp := fun b => if b = a then some o else H b
theorem upd_same {H : Hp} {a : Addr} {o : HO} : upd H a o a = some o := by unfold upd; rw [if_pos rfl]
theorem upd_ne {H : Hp} {a b : Addr} {o : HO} (h : b ≠ a) : upd H a o b = H b := by unfold upd; rw [if_neg h]
theorem upd_upd {H : Hp} {a : Addr} {o u : HO} : upd (upd H a o) a u = upd H a u := by
  funext b; unfold upd; split <;> rfl
/-- two objects of different content stand apart -/
theorem ne_of {H : Hp} {a b : Addr} {o u : HO} (h : H a = some o) (h' : H b = some u) (d : o ≠ u) : a ≠ b := by
  intro e; subst e; rw [h] at h'; exact d (Option.some.inj h')
theorem ne_of_none {H : Hp} {a b : Addr} {o : HO} (h : H a = some o) (h' : H b = none) : a ≠ b := by
  intro e; subst e; rw [h] at h'; cases h'

section
variable (P : Program) (w : World)
def ObjOk (H : Hp) (h : Heap) (a : Addr) : HO → Prop
  | .lst xs => xs.length ≤ sizeLine ∧ ∃ (its : List Value) (n : Nat), Vals xs its ∧ h.get? a = some { cls := .type "list", data := .seq its.toArray n }
  | .tup xs => xs.length ≤ sizeLine ∧ ∃ its : List Value, Vals xs its ∧ IsTup h a its.toArray
  | .dK kvs => kvs.length ≤ sizeLine ∧ (a == sysModules) = false ∧ ∃ vs, KV kvs vs ∧ h.DictOf (mixKind P w) a vs
  | .dT kvs => kvs.length ≤ sizeLine ∧ (a == sysModules) = false ∧ ∃ xs : List (List Key × Addr × Value),
      Paired (fun (p : List Key × V) (q : List Key × Addr × Value) => p.1 = q.1 ∧ H q.2.1 = some (.tup (p.1.map kV)) ∧ RelV p.2 q.2.2) kvs xs ∧
      ∃ o es ep, h.get? a = some o ∧ o.ExactDict ∧ o.data = .dict es ep ∧ es.toList = xs.map (entryOfKey (tupleKind (mixKind P w))) ∧ (xs.map (·.1)).Nodup
  | .set S n => h.SetOf (intKind P w) a S n
  | .ins C dx fs => H dx = some (.own a) ∧ fs.length ≤ 1000 ∧ dx ≠ a ∧ h.get? a = some (PySem.W.instObj C dx) ∧
      ∃ mA, h.Ns1 dx mA ∧ (∀ f, RelO (fs.lookup f) (mA f)) ∧ PySem.Within mA (fs.map (·.1))
  | .own _ => ∃ o, h.get? a = some o
  | .xd fs => ∃ mA, h.Ns1 a mA ∧ ∀ f, RelO (fs.lookup f) (mA f)
  | .rng lo hi => ∃ t u v, h.get? a = some { cls := .type "range", data := .fields #[.int lo t, .int hi u, .int 1 v] }
  | .frz o u => h.get? a = some o ∧ ObjOk H h a u
  | .tbl ps => h.get? a = some { cls := .none, data := .fields ps }
  | .met f x => h.get? a = some (PySem.W.methodObj (.ref f) (.ref x))
  | .ext φ => φ h ∧ (∃ o, h.get? a = some o) ∧ ∀ h1 h2 : Heap, φ h1 → (∀ o, h1.get? a = some o → h2.get? a = some o) → φ h2
/-- the abstract heap is held -/
def HOk (H : Hp) (h : Heap) : Prop := ∀ a o, H a = some o → ObjOk P w H h a o
end

section
variable {P : Program} {w : World} {H H' : Hp} {h h' : Heap} {a : Addr} {o : HO}
theorem ObjOk.lt (x : ObjOk P w H h a o) : a < h.objs.size := by
  cases o with
  | lst xs => obtain ⟨_, _, _, _, e⟩ := x; exact Heap.lt_size e
  | tup xs => obtain ⟨_, _, _, p⟩ := x; exact p.lt
  | dK kvs => obtain ⟨_, _, _, _, o, _, _, e, _⟩ := x; exact Heap.lt_size e
  | dT kvs => obtain ⟨_, _, _, _, o, _, _, e, _⟩ := x; exact Heap.lt_size e
  | set S n => obtain ⟨o, _, _, _, e, _⟩ := x; exact Heap.lt_size e
  | ins C dx fs => obtain ⟨_, _, _, e, _⟩ := x; exact Heap.lt_size e
  | own y => obtain ⟨_, e⟩ := x; exact Heap.lt_size e
  | xd fs => obtain ⟨_, ⟨_, _, _, e, _⟩, _⟩ := x; exact Heap.lt_size e
  | rng lo hi => obtain ⟨_, _, _, e⟩ := x; exact Heap.lt_size e
  | frz ob u => obtain ⟨e, _⟩ := x; exact Heap.lt_size e
  | tbl ps => exact Heap.lt_size (show h.get? a = some _ from x)
  | met f y => exact Heap.lt_size (show h.get? a = some _ from x)
  | ext φ => obtain ⟨_, ⟨_, e⟩, _⟩ := x; exact Heap.lt_size e
theorem Paired.mapP {α β : Type} {F G : α → β → Prop} : ∀ {l₁ : List α} {l₂ : List β}, Paired F l₁ l₂ → (∀ a b, F a b → G a b) → Paired G l₁ l₂
  | _, _, .nil, _ => .nil
  | _, _, .cons r t, f => .cons (f _ _ r) (Paired.mapP t f)
/-- what an object's description leans on: its own object, its own dict, the tuples -/
theorem ObjOk.stay (x : ObjOk P w H h a o) (k : ∀ b u, (b = a ∨ H b = some (.own a)) → h.get? b = some u → h'.get? b = some u)
    (ho : ∀ b, H b = some (.own a) → H' b = some (.own a)) (ht : ∀ b xs, H b = some (.tup xs) → H' b = some (.tup xs)) : ObjOk P w H' h' a o := by
  induction o with
  | lst xs => obtain ⟨z, its, n, r, e⟩ := x; exact ⟨z, its, n, r, k _ _ (.inl rfl) e⟩
  | tup xs => obtain ⟨z, its, r, ob, e, c⟩ := x; exact ⟨z, its, r, ob, k _ _ (.inl rfl) e, c⟩
  | dK kvs => obtain ⟨z, y, vs, r, ob, es, ep, e, c⟩ := x; exact ⟨z, y, vs, r, ob, es, ep, k _ _ (.inl rfl) e, c⟩
  | dT kvs =>
    obtain ⟨z, y, xs, r, ob, es, ep, e, c⟩ := x
    exact ⟨z, y, xs, Paired.mapP r fun p q z => ⟨z.1, ht _ _ z.2.1, z.2.2⟩, ob, es, ep, k _ _ (.inl rfl) e, c⟩
  | set S n => obtain ⟨ob, es, ep, t, e, c⟩ := x; exact ⟨ob, es, ep, t, k _ _ (.inl rfl) e, c⟩
  | ins C dx fs =>
    obtain ⟨d, z, ne, e, mA, ⟨od, es, ep, e2, c⟩, r⟩ := x
    exact ⟨ho _ d, z, ne, k _ _ (.inl rfl) e, mA, ⟨od, es, ep, k _ _ (.inr d) e2, c⟩, r⟩
  | own y => obtain ⟨ob, e⟩ := x; exact ⟨ob, k _ _ (.inl rfl) e⟩
  | xd fs => obtain ⟨mA, ⟨od, es, ep, e, c⟩, r⟩ := x; exact ⟨mA, ⟨od, es, ep, k _ _ (.inl rfl) e, c⟩, r⟩
  | rng lo hi => obtain ⟨t, u, v, e⟩ := x; exact ⟨t, u, v, k _ _ (.inl rfl) e⟩
  | frz ob u ih => obtain ⟨e, q⟩ := x; exact ⟨k _ _ (.inl rfl) e, ih q⟩
  | tbl ps =>
    have e : h.get? a = some { cls := .none, data := .fields ps } := x
    show h'.get? a = some { cls := .none, data := .fields ps }
    exact k a _ (.inl rfl) e
  | met f y =>
    have e : h.get? a = some (PySem.W.methodObj (.ref f) (.ref y)) := x
    show h'.get? a = some (PySem.W.methodObj (.ref f) (.ref y))
    exact k a _ (.inl rfl) e
  | ext φ => obtain ⟨p, ⟨o, e⟩, st⟩ := x; exact ⟨st _ _ p fun o q => k _ _ (.inl rfl) q, ⟨o, k _ _ (.inl rfl) e⟩, st⟩
theorem HOk.lt (x : HOk P w H h) (e : H a = some o) : a < h.objs.size := (x a o e).lt
theorem HOk.fresh (x : HOk P w H h) (e : h.objs.size ≤ a) : H a = none := by
  cases q : H a with
  | none => rfl
  | some u => exact absurd (Nat.lt_of_lt_of_le (x.lt q) e) (Nat.lt_irrefl _)
/-- every object of the heap is kept -/
theorem HOk.kept (x : HOk P w H h) (k : ∀ b u, h.get? b = some u → h'.get? b = some u) : HOk P w H h' := fun a o e =>
  (x a o e).stay (fun b u _ q => k b u q) (fun _ q => q) fun _ _ q => q
/-- a new object is laid and tracked -/
theorem HOk.laid (x : HOk P w H h) (k : ∀ b u, h.get? b = some u → h'.get? b = some u) (hp : h.objs.size ≤ a) (new : ObjOk P w (upd H a o) h' a o) : HOk P w (upd H a o) h' := fun b u e => by
  have hn := x.fresh hp
  by_cases hb : b = a
  · subst hb; rw [upd_same] at e; cases e; exact new
  · rw [upd_ne hb] at e
    exact (x b u e).stay (fun c v _ q => k c v q) (fun c q => by rw [upd_ne (ne_of_none q hn)]; exact q) fun c xs q => by rw [upd_ne (ne_of_none q hn)]; exact q
end

/-- what may be read as u: it is u, or a known u -/
def Rd (H : Hp) (a : Addr) (u : HO) : Prop := H a = some u ∨ ∃ o, H a = some (.frz o u)
theorem Rd.ok {P : Program} {w : World} {H : Hp} {h : Heap} {a : Addr} {u : HO} (r : Rd H a u) (x : HOk P w H h) : ObjOk P w H h a u := by
  rcases r with r | ⟨o, r⟩
  · exact x a u r
  · obtain ⟨_, q⟩ := x a _ r
    exact q
/-- what may be written -/
def Mut : Option HO → Prop
  | some (.lst _) => True
  | some (.dK _) => True
  | some (.dT _) => True
  | some (.set _ _) => True
  | some (.ins _ _ _) => True
  | some (.ext _) => True
  | _ => False
section
variable {P : Program} {w : World} {H : Hp} {h h' : Heap} {x e : Addr} {o' : HO}
/-- the object at e is changed: x itself, or the dict of the instance x -/
theorem HOk.write (ok : HOk P w H h) (mu : Mut (H x)) (he : e = x ∨ H e = some (.own x)) (k : ∀ b u, b ≠ e → h.get? b = some u → h'.get? b = some u) (heo : ∃ u, h'.get? e = some u)
    (new : ObjOk P w (upd H x o') h' x o') : HOk P w (upd H x o') h' := fun b u q => by
  have nown : ∀ c y, H c = some (.own y) → c ≠ x := fun c y r z => by subst z; rw [r] at mu; exact mu
  have ntup : ∀ c xs, H c = some (.tup xs) → c ≠ x := fun c xs r z => by subst z; rw [r] at mu; exact mu
  by_cases hb : b = x
  · subst hb; rw [upd_same] at q; cases q; exact new
  · rw [upd_ne hb] at q
    by_cases hbe : b = e
    · have q' : H b = some (.own x) := by
        rcases he with z | z
        · exact absurd (hbe.trans z) hb
        · rw [hbe]; exact z
      rw [q] at q'; cases q'
      obtain ⟨v, hv⟩ := heo
      exact ⟨v, by rw [hbe]; exact hv⟩
    · refine (ok b u q).stay (fun c v hc r => k c v ?_ r) (fun c r => by rw [upd_ne (nown c b r)]; exact r) fun c xs r => by rw [upd_ne (ntup c xs r)]; exact r
      rcases hc with rfl | hc
      · exact hbe
      · rintro rfl
        rcases he with z | z
        · exact nown c b hc z
        · rw [hc] at z; cases z; exact hb rfl
end

/-! ### kept unless tracked; of the frames at fs (the callers') the slots may change (an exception that passes writes there); of the records at ex (iterators) nothing is said -/
structure Un (fs ex : List Addr) (H H' : Hp) (h h' : Heap) : Prop where
  keep : ∀ b o, h.get? b = some o → H b = none → b ∉ fs → b ∉ ex → h'.get? b = some o
  slot : ∀ b o, h.get? b = some o → H b = none → b ∈ fs → b ∉ ex → ∃ sl, h'.get? b = some { o with slots := sl }
  free : ∀ b o, h.get? b = some o → H b = none → b ∉ ex → H' b = none
  there : ∀ b o, h.get? b = some o → b ∉ ex → ∃ o', h'.get? b = some o'
  tups : ∀ b xs, H b = some (.tup xs) → H' b = some (.tup xs)
  frzs : ∀ b o u, H b = some (.frz o u) → H' b = some (.frz o u)
  tbls : ∀ b ps, H b = some (.tbl ps) → ∃ more, H' b = some (.tbl (ps ++ more))
section
variable {fs fs' ex ex' : List Addr} {H H1 H2 : Hp} {h h1 h2 h' : Heap} {a x e : Addr} {o : HO}
theorem Un.any (u : Un fs ex H H1 h h1) {b : Addr} {ob : Obj} (q : h.get? b = some ob) (n : H b = none) (hx : b ∉ ex) : ∃ sl, h1.get? b = some { ob with slots := sl } := by
  by_cases hb : b ∈ fs
  · exact u.slot b ob q n hb hx
  · exact ⟨ob.slots, u.keep b ob q n hb hx⟩
theorem Un.kept (k : ∀ b u, h.get? b = some u → h'.get? b = some u) : Un fs ex H H h h' :=
  ⟨fun b ob q _ _ _ => k b ob q, fun b ob q _ _ _ => ⟨ob.slots, k b ob q⟩, fun _ _ _ n _ => n, fun b ob q _ => ⟨ob, k b ob q⟩, fun _ _ q => q, fun _ _ _ q => q, fun _ ps q => ⟨#[], by rw [q]; simp⟩⟩
theorem Un.refl : Un fs ex H H h h := Un.kept fun _ _ q => q
theorem Un.laid (k : ∀ b u, h.get? b = some u → h'.get? b = some u) (hp : h.objs.size ≤ a) (hn : H a = none) : Un fs ex H (upd H a o) h h' where
  keep := fun b u q _ _ _ => k b u q
  slot := fun b u q _ _ _ => ⟨u.slots, k b u q⟩
  free := fun b u q n _ => by rw [upd_ne (Nat.ne_of_lt (Nat.lt_of_lt_of_le (Heap.lt_size q) hp))]; exact n
  there := fun b u q _ => ⟨u, k b u q⟩
  tups := fun b xs q => by rw [upd_ne (ne_of_none q hn)]; exact q
  frzs := fun b u xs q => by rw [upd_ne (ne_of_none q hn)]; exact q
  tbls := fun b ps q => ⟨#[], by rw [upd_ne (ne_of_none q hn), q]; simp⟩
theorem Un.write (mu : Mut (H x)) (he : e = x ∨ H e = some (.own x)) (k : ∀ b u, b ≠ e → h.get? b = some u → h'.get? b = some u) (heo : ∃ u, h'.get? e = some u) : Un fs ex H (upd H x o) h h' := by
  have hx : ∀ b, H b = none → b ≠ x := fun b n z => by subst z; rw [n] at mu; exact mu
  have hb : ∀ b, H b = none → b ≠ e := fun b n z => by
    subst z
    rcases he with r | r
    · exact hx b n r
    · rw [n] at r; cases r
  have hm : ∀ b u, H b = some u → ¬ Mut (some u) → b ≠ x := fun b u q nm z => by subst z; rw [q] at mu; exact nm mu
  refine ⟨fun b u q n _ _ => k b u (hb b n) q, fun b u q n _ _ => ⟨u.slots, k b u (hb b n) q⟩, fun b u q n _ => by rw [upd_ne (hx b n)]; exact n, fun b u q _ => ?_,
    fun b xs q => by rw [upd_ne (hm b _ q fun z => z)]; exact q, fun b u xs q => by rw [upd_ne (hm b _ q fun z => z)]; exact q, fun b ps q => ⟨#[], by rw [upd_ne (hm b _ q fun z => z), q]; simp⟩⟩
  by_cases hbe : b = e
  · subst hbe; exact heo
  · exact ⟨u, k b u hbe q⟩
end

/-! ### the heap without what is tracked -/
def trk (h : Heap) (H : Hp) : List Addr := (List.range h.objs.size).filter fun a => (H a).isSome
def hidT (h : Heap) (H : Hp) : Heap := PySem.W.hideAll h (trk h H)
theorem hidT_size (h : Heap) (H : Hp) : (hidT h H).objs.size = h.objs.size := PySem.W.hideAll_size _ _
theorem hidT_get {h : Heap} {H : Hp} {b : Addr} {o : Obj} (e : h.get? b = some o) (n : H b = none) : (hidT h H).get? b = some o :=
  PySem.W.hideAll_get _ e fun hm => by
    have q : (H b).isSome = true := (List.mem_filter.mp hm).2
    rw [n] at q; simp at q
theorem of_hidT {h : Heap} {H : Hp} {b : Addr} {o : Obj} (e : (hidT h H).get? b = some o) : h.get? b = some o ∧ H b = none := by
  have e' : h.get? b = some o := PySem.W.of_hideAll (trk h H) e
  refine ⟨e', ?_⟩
  cases q : H b with
  | none => rfl
  | some x =>
    have hm : b ∈ trk h H := List.mem_filter.mpr ⟨List.mem_range.mpr (Heap.lt_size e'), by simp [q]⟩
    have z : (hidT h H).get? b = none := PySem.W.hideAll_none (trk h H) hm
    rw [z] at e; cases e

/-! ### OpenK's ledger, filled with every new object but one -/
def allNews (g h : Heap) (L : Addr) : List (Addr × Obj) := (List.range h.objs.size).filterMap fun a => if a = L ∨ (g.get? a).isSome = true then none else (h.get? a).map fun o => (a, o)
def rest (g h : Heap) (L d : Addr) : List (Addr × Obj) := (allNews g h L).filter fun p => decide (p.1 ≠ d)
end L2

namespace L2
open PySem PySem.Spec PyProof.Rows

/-- the module's facts, over the base: the heap at the law's entry without what is tracked there -/
structure Mod (K : PySem.W.Frag) (mg : Str → Option Value) (base : Heap) : Prop where
  kin : K.In base
  glob : base.Ns mainGlobals mg
  blt : ∃ mb, base.Ns builtinsNs mb ∧ ∀ x : Str, x ≠ "__name__" → mb x = bootBuiltins x
  nolimit : base.NoLimit

/-- the context: a def's body (or a comprehension's block) running. base: fixed through the whole law; s₀, H₀: the entry; outer: the frames whose slots others may change (a def's callers); stack: all frames that run;
   ex: iterators that were made ahead of the entry and are walked here (a comprehension's); fn: the names whose cells were made at the entry (a def: all; a comprehension's block: its own); calm: not within an except suite; pn: pins that every state bears; xe: what is wanted of an exception that leaves the code -/
structure Cx where
  prog : Program
  w : World
  K : PySem.W.Frag
  mg : Str → Option Value
  base : Heap
  A : Around
  N : List Str
  s₀ : Shared
  H₀ : Hp
  env : Env
  outer : List Env
  stack : List Env
  ex : List Addr
  fn : Str → Bool
  calm : Bool
  pn : List (Addr × Obj)
  xe : Value → Shared → Prop
/-- the callers' frames -/
def frs (l : List Env) : List Addr := l.filterMap (·.frame)
abbrev Cx.fs (X : Cx) : List Addr := frs X.outer

def Vis (sc : Scope) (x : Str) : Prop := sc.names.lookup x = some .local ∨ sc.names.lookup x = some .cell ∨ sc.names.lookup x = some .free
def Loc (sc : Scope) (x : Str) : Prop := sc.names.lookup x = some .local ∨ sc.names.lookup x = some .cell
def Look (env : Env) (h : Heap) (m : Str → Option Value) (x : Str) (u : Value) : Prop :=
  (env.kindOf x = some .local ∧ m x = some u) ∨ ((env.kindOf x = some .cell ∨ env.kindOf x = some .free) ∧ ∃ c, env.cells.lookup x = some c ∧ h.IsCell c (some u))

structure Cx.Ok (X : Cx) : Prop where
  mod : Mod X.K X.mg X.base
  kind : X.env.scope.kind = .function
  glob : X.env.globals = mainGlobals
  blt : X.env.builtins = builtinsNs
  above : X.s₀.heap.objs.size ≤ X.env.locals
  inj : ∀ x y c, X.env.cells.lookup x = some c → X.env.cells.lookup y = some c → x = y
  has : ∀ x, (X.env.kindOf x = some .cell ∨ X.env.kindOf x = some .free) → ∃ c, X.env.cells.lookup x = some c
  cab : ∀ x c, X.fn x = true → X.env.cells.lookup x = some c → X.s₀.heap.objs.size ≤ c
  hd : X.calm = true → X.A.handled = none
  frames : X.A.frames = some X.stack
  stk : X.stack = X.outer ∨ (X.stack = X.env :: X.outer ∧ X.env.frame = some X.env.locals)
  exf : ∀ b ∈ X.ex, b ≠ X.env.locals ∧ ∀ x c, X.env.cells.lookup x = some c → c ≠ b
  bs : ∀ b o, X.base.get? b = some o → X.s₀.heap.get? b = some o ∧ X.H₀ b = none
  bsz : X.base.objs.size ≤ X.s₀.heap.objs.size
  noex : ∀ b o, X.base.get? b = some o → b ∉ X.ex
  exfs : ∀ b ∈ X.ex, b ∉ X.fs
  funs : X.s₀.heap.FunFrames X.base X.outer
  frf : ∀ b ∈ X.fs, X.H₀ b = none

structure Inv (X : Cx) (pins : List (Addr × Obj)) (σ : List (Option V)) (H : Hp) (s : Shared) : Prop where
  ok : X.Ok
  os : s.os = X.s₀.os
  bare : AllBare s.gens
  base : Un X.fs X.ex X.H₀ H X.s₀.heap s.heap
  loc : ∃ m, s.heap.Ns X.env.locals m ∧ ∀ (i : Nat) (x : Str) (v : V), X.N[i]? = some x → σ[i]? = some (some v) → Vis X.env.scope x → ∃ u, RelV v u ∧ Look X.env s.heap m x u
  cell : ∀ x c, X.env.cells.lookup x = some c → ∃ v, s.heap.IsCell c v
  free : H X.env.locals = none
  freeC : ∀ x c, X.env.cells.lookup x = some c → H c = none
  pin : ∀ p ∈ X.pn ++ pins, s.heap.get? p.1 = some p.2 ∧ H p.1 = none ∧ p.1 ≠ X.env.locals ∧ p.1 ∉ X.fs ∧ ∀ v, p.2.data ≠ .cell v
  hok : HOk X.prog X.w H s.heap
  len : σ.length = X.N.length

section
variable {X : Cx} {pins : List (Addr × Obj)} {σ : List (Option V)} {H H' : Hp} {s : Shared} {h' : Heap}

theorem Cx.Ok.nofr (ok : X.Ok) {b : Addr} {o : Obj} (e : X.base.get? b = some o) : b ∉ X.fs := fun hb => by
  have := (ok.funs.mem hb).1
  rw [e] at this; cases this
theorem Inv.bs (I : Inv X pins σ H s) : ∀ b o, X.base.get? b = some o → s.heap.get? b = some o ∧ H b = none := fun b o e =>
  ⟨I.base.keep b o (I.ok.bs b o e).1 (I.ok.bs b o e).2 (I.ok.nofr e) (I.ok.noex b o e), I.base.free b o (I.ok.bs b o e).1 (I.ok.bs b o e).2 (I.ok.noex b o e)⟩
theorem Inv.bk (I : Inv X pins σ H s) : ∀ b o, X.base.get? b = some o → s.heap.get? b = some o := fun b o e => (I.bs b o e).1
theorem Inv.mod (I : Inv X pins σ H s) : Mod X.K X.mg X.base := I.ok.mod
theorem Inv.kIn (I : Inv X pins σ H s) : X.K.In s.heap := I.ok.mod.kin.keeps I.bk
theorem Inv.lt (I : Inv X pins σ H s) : X.env.locals < s.heap.objs.size := let ⟨_, hn, _⟩ := I.loc; hn.lt
theorem Inv.sz (I : Inv X pins σ H s) : X.s₀.heap.objs.size ≤ s.heap.objs.size := Nat.le_trans I.ok.above (Nat.le_of_lt I.lt)
theorem Inv.nofs (I : Inv X pins σ H s) {a : Addr} (h : s.heap.objs.size ≤ a) : a ∉ X.fs := fun hb => by
  obtain ⟨_, o, ho, _⟩ := I.ok.funs.mem hb
  exact absurd (Nat.lt_of_lt_of_le (Heap.lt_size ho) (Nat.le_trans I.sz h)) (Nat.lt_irrefl _)
theorem Inv.cne (I : Inv X pins σ H s) : ∀ x c, X.env.cells.lookup x = some c → c ≠ X.env.locals := fun x c e z => by
  obtain ⟨v, o, ho, hd⟩ := I.cell x c e
  obtain ⟨m, ⟨o', es, ep, ho', hd', _⟩, _⟩ := I.loc
  rw [z, ho'] at ho; cases ho; rw [hd'] at hd; cases hd
theorem Inv.funs (I : Inv X pins σ H s) : s.heap.FunFrames X.base X.outer := by
  have all : ∀ (l : List Env), (∀ b ∈ frs l, b ∈ X.fs) → X.s₀.heap.FunFrames X.base l → s.heap.FunFrames X.base l := by
    intro l
    induction l with
    | nil => intro _ _; trivial
    | cons env r ih =>
      intro hs hl
      obtain ⟨hk, ⟨L, o, hf, hn, ho, hd⟩, hr⟩ := hl
      have hL : L ∈ X.fs := hs L (by unfold frs; rw [List.filterMap_cons, hf]; exact List.mem_cons_self)
      obtain ⟨sl, e⟩ := I.base.slot L o ho (I.ok.frf L hL) hL fun z => I.ok.exfs L z hL
      exact ⟨hk, ⟨L, _, hf, hn, e, hd⟩, ih (fun b hb => hs b (by unfold frs; rw [List.filterMap_cons, hf]; exact List.mem_cons_of_mem _ hb)) hr⟩
  exact all X.outer (fun _ hb => hb) I.ok.funs

/-- the frames that run, for a call -/
theorem Inv.stack (I : Inv X pins σ H s) : s.heap.FunFrames X.base X.stack := by
  rcases I.ok.stk with e | ⟨e, hf⟩
  · rw [e]; exact I.funs
  · rw [e]
    obtain ⟨m, hn, _⟩ := I.loc
    refine .cons (by rw [I.ok.kind]; decide) hf hn ?_ I.funs
    exact Heap.get?_none_of_le (Nat.le_trans I.ok.bsz I.ok.above)
theorem Inv.stkSub (I : Inv X pins σ H s) : ∀ b ∈ frs X.stack, b ∈ X.env.locals :: X.fs := fun b hb => by
  rcases I.ok.stk with e | ⟨e, hf⟩
  · rw [e] at hb; exact List.mem_cons_of_mem _ hb
  · rw [e] at hb
    unfold frs at hb
    rw [List.filterMap_cons, hf] at hb
    exact hb
theorem Inv.stkFree (I : Inv X pins σ H s) : ∀ b ∈ frs X.stack, H b = none := fun b hb => by
  rcases List.mem_cons.mp (I.stkSub b hb) with e | hb
  · rw [e]; exact I.free
  · obtain ⟨_, o, ho, _⟩ := I.ok.funs.mem hb
    exact I.base.free b o ho (I.ok.frf b hb) fun z => I.ok.exfs b z hb

/-- THE STEP: the untracked objects but the frame and the records at ch are kept (the callers' frames up to slots), the frame's map is kept, the new abstract heap is held -/
theorem Inv.step {g' : Array GenState} {t' : Nat} {d' : Drawn} {ch : List Addr} (I : Inv X pins σ H s)
    (hch : ∀ b ∈ ch, (b ∈ X.ex ∨ X.s₀.heap.objs.size ≤ b) ∧ b ≠ X.env.locals ∧ (∀ x c, X.env.cells.lookup x = some c → c ≠ b) ∧ ∀ p ∈ X.pn ++ pins, p.1 ≠ b)
    (keep : ∀ b o, b ≠ X.env.locals → b ∉ X.fs → b ∉ ch → s.heap.get? b = some o → H b = none → h'.get? b = some o)
    (slot : ∀ b o, b ≠ X.env.locals → b ∈ X.fs → b ∉ ch → s.heap.get? b = some o → H b = none → ∃ sl, h'.get? b = some { o with slots := sl }) (free : ∀ b o, b ∉ ch → s.heap.get? b = some o → H b = none → H' b = none)
    (there : ∀ b o, b ∉ ch → s.heap.get? b = some o → ∃ o', h'.get? b = some o')
    (tups : ∀ b xs, H b = some (.tup xs) → H' b = some (.tup xs)) (frzs : ∀ b o u, H b = some (.frz o u) → H' b = some (.frz o u)) (tbls : ∀ b ps, H b = some (.tbl ps) → ∃ more, H' b = some (.tbl (ps ++ more)))
    (ns : ∀ m, s.heap.Ns X.env.locals m → h'.Ns X.env.locals m) (hok : HOk X.prog X.w H' h') (hg : AllBare g') :
    Inv X pins σ H' { s with heap := h', gens := g', drawn := d', toks := t' } := by
  have neL : ∀ b o, X.s₀.heap.get? b = some o → b ≠ X.env.locals := fun b o e => Nat.ne_of_lt (Nat.lt_of_lt_of_le (Heap.lt_size e) I.ok.above)
  have neC : ∀ b o, X.s₀.heap.get? b = some o → b ∉ X.ex → b ∉ ch := fun b o e hx hb => by
    rcases (hch b hb).1 with z | z
    · exact hx z
    · exact absurd (Nat.lt_of_lt_of_le (Heap.lt_size e) z) (Nat.lt_irrefl _)
  have cellK : ∀ x c, X.env.cells.lookup x = some c → ∀ v, s.heap.IsCell c v → h'.IsCell c v := fun x c e v ⟨o, ho, hd⟩ => by
    have nch : c ∉ ch := fun z => (hch c z).2.2.1 x c e rfl
    by_cases hc : c ∈ X.fs
    · obtain ⟨sl, q⟩ := slot c o (I.cne x c e) hc nch ho (I.freeC x c e)
      exact ⟨_, q, hd⟩
    · exact ⟨o, keep c o (I.cne x c e) hc nch ho (I.freeC x c e), hd⟩
  refine ⟨I.ok, I.os, hg, ⟨fun b o e n hb hx => ?_, fun b o e n hb hx => ?_, fun b o e n hx => ?_, fun b o e hx => ?_, fun b xs e => tups b xs (I.base.tups b xs e), fun b o xs e => frzs b o xs (I.base.frzs b o xs e), fun b ps e => ?_⟩, ?_, fun x c e => ?_, ?_, fun x c e => ?_, fun p hp => ?_, hok, I.len⟩
  · exact keep b o (neL b o e) hb (neC b o e hx) (I.base.keep b o e n hb hx) (I.base.free b o e n hx)
  · obtain ⟨sl, e1⟩ := I.base.slot b o e n hb hx
    obtain ⟨sl', e2⟩ := slot b _ (neL b o e) hb (neC b o e hx) e1 (I.base.free b o e n hx)
    exact ⟨sl', e2⟩
  · obtain ⟨o', e1⟩ := I.base.there b o e hx
    exact free b o' (neC b o e hx) e1 (I.base.free b o e n hx)
  · obtain ⟨o', e1⟩ := I.base.there b o e hx
    exact there b o' (neC b o e hx) e1
  · obtain ⟨m1, e1⟩ := I.base.tbls b ps e
    obtain ⟨m2, e2⟩ := tbls b _ e1
    exact ⟨m1 ++ m2, by rw [e2, Array.append_assoc]⟩
  · obtain ⟨m, hn, hl⟩ := I.loc
    refine ⟨m, ns m hn, fun i x v e1 e2 e3 => ?_⟩
    obtain ⟨u, r, l⟩ := hl i x v e1 e2 e3
    refine ⟨u, r, ?_⟩
    rcases l with l | ⟨k, c, e, z⟩
    · exact .inl l
    · exact .inr ⟨k, c, e, cellK x c e _ z⟩
  · obtain ⟨v, z⟩ := I.cell x c e
    exact ⟨v, cellK x c e v z⟩
  · obtain ⟨m, ⟨o, _, _, ho, _⟩, _⟩ := I.loc
    exact free _ o (fun z => (hch _ z).2.1 rfl) ho I.free
  · obtain ⟨v, o, ho, hd⟩ := I.cell x c e
    exact free c o (fun z => (hch c z).2.2.1 x c e rfl) ho (I.freeC x c e)
  · obtain ⟨e, n, ne, nf, d⟩ := I.pin p hp
    have nch : p.1 ∉ ch := fun z => (hch p.1 z).2.2.2 p hp rfl
    exact ⟨keep p.1 p.2 ne nf nch e n, free p.1 p.2 nch e n, ne, nf, d⟩
/-- .. where the frame's own object is kept too -/
theorem Inv.un {t' : Nat} (I : Inv X pins σ H s) (u : Un X.fs [] H H' s.heap h') (hok : HOk X.prog X.w H' h') : Inv X pins σ H' { s with heap := h', toks := t' } := by
  obtain ⟨m, ⟨o, es, ep, ho, r⟩, _⟩ := id I.loc
  obtain ⟨sl, hL⟩ := u.any ho I.free (by simp)
  exact I.step (g' := s.gens) (d' := s.drawn) (ch := []) (fun _ z => nomatch z) (fun b o _ hb _ e n => u.keep b o e n hb (by simp)) (fun b o _ hb _ e n => u.slot b o e n hb (by simp)) (fun b o _ e n => u.free b o e n (by simp)) (fun b o _ e => u.there b o e (by simp)) u.tups u.frzs u.tbls (fun m' hm => by
    obtain ⟨o', es', ep', ho', r'⟩ := hm
    rw [ho] at ho'; cases ho'
    exact ⟨_, es', ep', hL, r'⟩) hok I.bare
/-- behind a call (or a comprehension's block): the slots of this frame may have changed too, the records at ch may have turned -/
theorem Inv.call {g' : Array GenState} {t' : Nat} {d' : Drawn} {ch : List Addr} (I : Inv X pins σ H s) (u : Un (frs X.stack) ch H H' s.heap h') (hok : HOk X.prog X.w H' h') (hg : AllBare g')
    (hch : ∀ b ∈ ch, (b ∈ X.ex ∨ X.s₀.heap.objs.size ≤ b) ∧ b ≠ X.env.locals ∧ (∀ x c, X.env.cells.lookup x = some c → c ≠ b) ∧ ∀ p ∈ X.pn ++ pins, p.1 ≠ b) :
    Inv X pins σ H' { s with heap := h', gens := g', drawn := d', toks := t' } := by
  obtain ⟨m, ⟨o, es, ep, ho, r⟩, _⟩ := id I.loc
  obtain ⟨sl, hL⟩ := u.any ho I.free fun z => (hch _ z).2.1 rfl
  exact I.step (ch := ch) hch (fun b o hL hb hc e n => u.keep b o e n (fun z => (List.mem_cons.mp (I.stkSub b z)).elim hL hb) hc) (fun b o _ _ hc e n => u.any e n hc) (fun b o hc e n => u.free b o e n hc) (fun b o hc e => u.there b o e hc) u.tups u.frzs u.tbls (fun m' hm => by
    obtain ⟨o', es', ep', ho', r'⟩ := hm
    rw [ho] at ho'; cases ho'
    exact ⟨_, es', ep', hL, r'⟩) hok hg
/-- an untracked record of ours (an iterator) has turned -/
theorem Inv.turned {t' : Nat} {it : Addr} (I : Inv X pins σ H s) (k : ∀ b o, b ≠ it → s.heap.get? b = some o → h'.get? b = some o) (hn : H it = none) (hL : it ≠ X.env.locals)
    (h1 : it ∈ X.ex ∨ X.s₀.heap.objs.size ≤ it) (h2 : ∀ x c, X.env.cells.lookup x = some c → c ≠ it) (h3 : ∀ p ∈ X.pn ++ pins, p.1 ≠ it) : Inv X pins σ H { s with heap := h', toks := t' } := by
  have nit : ∀ b u, H b = some u → b ≠ it := fun b u e z => by rw [z, hn] at e; cases e
  refine I.step (g' := s.gens) (d' := s.drawn) (ch := [it]) (fun b hb => ?_) (fun b o _ _ hc e _ => k b o (fun z => hc (by simp [z])) e) (fun b o _ _ hc e _ => ⟨o.slots, k b o (fun z => hc (by simp [z])) e⟩) (fun _ _ _ _ n => n)
    (fun b o hc e => ⟨o, k b o (fun z => hc (by simp [z])) e⟩) (fun _ _ e => e) (fun _ _ _ e => e) (fun b ps e => ⟨#[], by rw [e]; simp⟩) (fun m hm => ?_) (fun b u e => ?_) I.bare
  · have e : b = it := by simpa using hb
    subst e
    exact ⟨h1, hL, h2, h3⟩
  · obtain ⟨o, es, ep, ho, r⟩ := hm
    exact ⟨o, es, ep, k _ o (Ne.symm hL) ho, r⟩
  · refine (I.hok b u e).stay (fun c v hc q => k c v ?_ q) (fun _ q => q) fun _ _ q => q
    rcases hc with z | z
    · rw [z]; exact nit b u e
    · exact nit c _ z
theorem Inv.tok (I : Inv X pins σ H s) (t : Nat) : Inv X pins σ H { s with toks := t } := I.un (h' := s.heap) (t' := t) Un.refl I.hok
/-- all objects kept -/
theorem Inv.kept {t' : Nat} (I : Inv X pins σ H s) (k : ∀ b u, s.heap.get? b = some u → h'.get? b = some u) : Inv X pins σ H { s with heap := h', toks := t' } := I.un (Un.kept k) (I.hok.kept k)
/-- a new object laid and tracked -/
theorem Inv.laid {a : Addr} {o : HO} {t' : Nat} (I : Inv X pins σ H s) (k : ∀ b u, s.heap.get? b = some u → h'.get? b = some u) (hp : s.heap.objs.size ≤ a) (new : ObjOk X.prog X.w (upd H a o) h' a o) :
    Inv X pins σ (upd H a o) { s with heap := h', toks := t' } := I.un (Un.laid k hp (I.hok.fresh hp)) (I.hok.laid k hp new)
/-- an object written -/
theorem Inv.write {x e : Addr} {o : HO} {t' : Nat} (I : Inv X pins σ H s) (mu : Mut (H x)) (he : e = x ∨ H e = some (.own x)) (k : ∀ b u, b ≠ e → s.heap.get? b = some u → h'.get? b = some u) (heo : ∃ u, h'.get? e = some u)
    (new : ObjOk X.prog X.w (upd H x o) h' x o) : Inv X pins σ (upd H x o) { s with heap := h', toks := t' } := I.un (Un.write mu he k heo) (I.hok.write mu he k heo new)
theorem Inv.pins_of {pins' : List (Addr × Obj)} (I : Inv X pins σ H s) (h : ∀ p ∈ pins', s.heap.get? p.1 = some p.2 ∧ H p.1 = none ∧ p.1 ≠ X.env.locals ∧ p.1 ∉ X.fs ∧ ∀ v, p.2.data ≠ .cell v) : Inv X pins' σ H s :=
  ⟨I.ok, I.os, I.bare, I.base, I.loc, I.cell, I.free, I.freeC, fun p hp => (List.mem_append.mp hp).elim (fun z => I.pin p (List.mem_append_left _ z)) (h p), I.hok, I.len⟩

theorem nodup_ix {N : List Str} (hN : N.Nodup) {i j : Nat} {x : Str} (a : N[i]? = some x) (b : N[j]? = some x) : i = j := by
  obtain ⟨h1, e1⟩ := List.getElem?_eq_some_iff.mp a
  obtain ⟨h2, e2⟩ := List.getElem?_eq_some_iff.mp b
  exact (List.getElem_inj hN).mp (e1.trans e2.symm)

/-- a name is stored; what changed -/
theorem store_ok2 {M : Model} {A : Around} {E : Value → Shared → Prop} {i : Nat} {x : Str} {v : V} {u : Value} {Q : Unit → Shared → Prop} (I : Inv X pins σ H s) (hN : X.N.Nodup) (hi : X.N[i]? = some x) (hx : Loc X.env.scope x) (r : RelV v u)
    (h : ∀ s', Inv X pins (σ.set i (some v)) H s' → (∃ a, Heap.SameBut a s.heap s'.heap ∧ (a = X.env.locals ∨ X.env.cells.lookup x = some a)) → Q () s') (hf : X.fn x = true ∨ X.env.scope.names.lookup x = some .local := by first | exact .inl rfl | exact .inr rfl | assumption) : wpAny M A (storeName X.env x u) Q E s := by
  obtain ⟨m, hn, hl⟩ := id I.loc
  have hcls : (X.env.scope.kind == .class || (X.env.scope.kind == .module && X.env.locals != X.env.globals)) = false := by rw [I.ok.kind]; rfl
  have hiσ : i < σ.length := by rw [I.len]; exact (List.getElem?_eq_some_iff.mp hi).1
  have cne := I.cne
  have tracked : ∀ {a : Addr} {h' : Heap}, (∃ o, s.heap.get? a = some o ∧ H a = none) → Heap.SameBut a s.heap h' → HOk X.prog X.w H h' := fun {a h'} ha hs b ob e => by
    obtain ⟨_, _, hfree⟩ := ha
    refine (I.hok b ob e).stay (fun c w' hc q => (hs.2 c ?_).trans q) (fun _ q => q) fun _ _ q => q
    rintro rfl
    rcases hc with rfl | hc
    · rw [hfree] at e; cases e
    · rw [hfree] at hc; cases hc
  rcases hx with hk | hk
  · refine wpAny_storeName_local hk hn (fun h' hn' hs => ?_) hcls
    obtain ⟨oL, _, _, hoL, _⟩ := id hn
    refine h _ ⟨I.ok, I.os, I.bare, ⟨fun b o e n hb hx => ?_, fun b o e n hb hx => ?_, I.base.free, fun b o e hx => ?_, I.base.tups, I.base.frzs, I.base.tbls⟩, ⟨_, hn', fun j y v' e1 e2 e3 => ?_⟩, fun y c e => ?_, I.free, I.freeC, fun p hp => ?_, tracked ⟨oL, hoL, I.free⟩ hs, by simpa using I.len⟩ ⟨_, hs, .inl rfl⟩
    · exact (hs.2 b (Nat.ne_of_lt (Nat.lt_of_lt_of_le (Heap.lt_size e) I.ok.above))).trans (I.base.keep b o e n hb hx)
    · obtain ⟨sl, e1⟩ := I.base.slot b o e n hb hx
      exact ⟨sl, (hs.2 b (Nat.ne_of_lt (Nat.lt_of_lt_of_le (Heap.lt_size e) I.ok.above))).trans e1⟩
    · obtain ⟨o', e1⟩ := I.base.there b o e hx
      exact ⟨o', (hs.2 b (Nat.ne_of_lt (Nat.lt_of_lt_of_le (Heap.lt_size e) I.ok.above))).trans e1⟩
    · by_cases hj : j = i
      · subst hj
        rw [hi] at e1; cases e1
        rw [List.getElem?_set_self hiσ] at e2
        cases e2
        exact ⟨u, r, .inl ⟨hk, by simp⟩⟩
      · rw [List.getElem?_set_ne (Ne.symm hj)] at e2
        obtain ⟨u', r', q⟩ := hl j y v' e1 e2 e3
        refine ⟨u', r', ?_⟩
        rcases q with ⟨k, e⟩ | ⟨k, c, e, z⟩
        · refine .inl ⟨k, ?_⟩
          have : y ≠ x := fun e => hj (nodup_ix hN e1 (e ▸ hi))
          simp [this, e]
        · exact .inr ⟨k, c, e, z.sameBut hs (cne y c e)⟩
    · obtain ⟨w', z⟩ := I.cell y c e
      exact ⟨w', z.sameBut hs (cne y c e)⟩
    · obtain ⟨e, n, ne, nf, d⟩ := I.pin p hp
      exact ⟨(hs.2 p.1 ne).trans e, n, ne, nf, d⟩
  · have hfn : X.fn x = true := by
      rcases hf with z | z
      · exact z
      · rw [z] at hk; cases hk
    obtain ⟨c, hc⟩ := I.ok.has x (.inl hk)
    obtain ⟨w', z⟩ := I.cell x c hc
    refine wpAny_storeName_cell I.ok.kind hk hc z (fun h' hc' hs => ?_)
    obtain ⟨oc, hoc, hocd⟩ := id z
    refine h { s with heap := h' } ⟨I.ok, I.os, I.bare, ⟨fun b o e n hb hx => ?_, fun b o e n hb hx => ?_, I.base.free, fun b o e hx => ?_, I.base.tups, I.base.frzs, I.base.tbls⟩, ⟨m, hn.sameBut hs (Ne.symm (cne x c hc)), fun j y v' e1 e2 e3 => ?_⟩, fun y c' e => ?_, I.free, I.freeC, fun p hp => ?_, tracked ⟨oc, hoc, I.freeC x c hc⟩ hs, by simpa using I.len⟩ ⟨c, hs, .inr hc⟩
    · exact (hs.2 b (Nat.ne_of_lt (Nat.lt_of_lt_of_le (Heap.lt_size e) (I.ok.cab x c hfn hc)))).trans (I.base.keep b o e n hb hx)
    · obtain ⟨sl, e1⟩ := I.base.slot b o e n hb hx
      exact ⟨sl, (hs.2 b (Nat.ne_of_lt (Nat.lt_of_lt_of_le (Heap.lt_size e) (I.ok.cab x c hfn hc)))).trans e1⟩
    · obtain ⟨o', e1⟩ := I.base.there b o e hx
      exact ⟨o', (hs.2 b (Nat.ne_of_lt (Nat.lt_of_lt_of_le (Heap.lt_size e) (I.ok.cab x c hfn hc)))).trans e1⟩
    · by_cases hj : j = i
      · subst hj
        rw [hi] at e1; cases e1
        rw [List.getElem?_set_self hiσ] at e2
        cases e2
        exact ⟨u, r, .inr ⟨.inl hk, c, hc, hc'⟩⟩
      · rw [List.getElem?_set_ne (Ne.symm hj)] at e2
        obtain ⟨u', r', q⟩ := hl j y v' e1 e2 e3
        refine ⟨u', r', ?_⟩
        rcases q with q | ⟨k, c', e, z'⟩
        · exact .inl q
        · refine .inr ⟨k, c', e, z'.sameBut hs ?_⟩
          rintro rfl
          exact hj (nodup_ix hN e1 (I.ok.inj _ _ _ e hc ▸ hi))
    · by_cases hcc : c' = c
      · subst hcc; exact ⟨_, hc'⟩
      · obtain ⟨w2, z2⟩ := I.cell y c' e
        exact ⟨w2, z2.sameBut hs hcc⟩
    · obtain ⟨e, n, ne, nf, d⟩ := I.pin p hp
      refine ⟨(hs.2 p.1 ?_).trans e, n, ne, nf, d⟩
      intro q
      rw [q, hoc] at e
      have q' : oc = p.2 := Option.some.inj e
      exact d w' (by rw [← q']; exact hocd)
theorem store_ok {M : Model} {A : Around} {E : Value → Shared → Prop} {i : Nat} {x : Str} {v : V} {u : Value} {Q : Unit → Shared → Prop} (I : Inv X pins σ H s) (hN : X.N.Nodup) (hi : X.N[i]? = some x) (hx : Loc X.env.scope x) (r : RelV v u)
    (h : ∀ s', Inv X pins (σ.set i (some v)) H s' → Q () s') (hf : X.fn x = true ∨ X.env.scope.names.lookup x = some .local := by first | exact .inl rfl | exact .inr rfl | assumption) : wpAny M A (storeName X.env x u) Q E s :=
  store_ok2 I hN hi hx r (fun s' I' _ => h s' I') hf
/-- behind a call or a block, the state as it is -/
theorem Inv.call' {s' : Shared} {ch : List Addr} (I : Inv X pins σ H s) (ho : s'.os = s.os) (u : Un (frs X.stack) ch H H' s.heap s'.heap) (hok : HOk X.prog X.w H' s'.heap) (hg : AllBare s'.gens)
    (hch : ∀ b ∈ ch, (b ∈ X.ex ∨ X.s₀.heap.objs.size ≤ b) ∧ b ≠ X.env.locals ∧ (∀ x c, X.env.cells.lookup x = some c → c ≠ b) ∧ ∀ p ∈ X.pn ++ pins, p.1 ≠ b) : Inv X pins σ H' s' := by
  obtain ⟨h', g', d', t', o'⟩ := s'
  have e : o' = s.os := ho
  subst e
  exact I.call (g' := g') (t' := t') (d' := d') u hok hg hch
end

/-! ### the judgements -/
/-- an exception: its class, its own dict's address (where it has one), the abstract heap behind it -/
abbrev XK := Value → Option Addr → Hp → Prop
abbrev St := List (Option V)
abbrev VK := V → Hp → Prop
/-- an expression's reading; a test's; an argument list's -/
abbrev TE := St → Hp → VK → Prop
abbrev TT := St → Hp → (Bool → Hp → Prop) → Prop
abbrev TA := St → Hp → (List V → Hp → Prop) → Prop
/-- what is wanted behind a statement -/
structure Ends where
  nx : St → Hp → Prop
  rt : VK
  bk : St → Hp → Prop := fun _ _ => False
  ct : St → Hp → Prop := fun _ _ => False
abbrev TS := Ends → St → Hp → Prop

def EP (X : Cx) (pins : List (Addr × Obj)) (σ : St) (Q : VK) (u : Value) (s' : Shared) : Prop := ∃ v H', Inv X pins σ H' s' ∧ RelV v u ∧ Q v H'
def TP (X : Cx) (pins : List (Addr × Obj)) (σ : St) (Q : Bool → Hp → Prop) (b : Bool) (s' : Shared) : Prop := ∃ H', Inv X pins σ H' s' ∧ Q b H'
def AP (X : Cx) (pins : List (Addr × Obj)) (σ : St) (Q : List V → Hp → Prop) (us : List Value) (s' : Shared) : Prop := ∃ vs H', Inv X pins σ H' s' ∧ Vals vs us ∧ Q vs H'
def SP (X : Cx) (pins : List (Addr × Obj)) (D : Ends) (f : Flow) (s' : Shared) : Prop :=
  match f with
  | .next => ∃ σ' H', Inv X pins σ' H' s' ∧ D.nx σ' H'
  | .brk => ∃ σ' H', Inv X pins σ' H' s' ∧ D.bk σ' H'
  | .cont => ∃ σ' H', Inv X pins σ' H' s' ∧ D.ct σ' H'
  | .ret u => ∃ v σ' H', Inv X pins σ' H' s' ∧ RelV v u ∧ D.rt v H'

def PE (X : Cx) (e : Expr) (t : TE) : Prop :=
  ∀ (pins : List (Addr × Obj)) (s : Shared) (σ : St) (H : Hp) (Q : VK), Inv X pins σ H s → t σ H Q → wpAny (model X.prog X.w) X.A (eval e X.env) (EP X pins σ Q) X.xe s
def PT (X : Cx) (e : Expr) (t : TT) : Prop :=
  ∀ (pins : List (Addr × Obj)) (s : Shared) (σ : St) (H : Hp) (Q : Bool → Hp → Prop), Inv X pins σ H s → t σ H Q → wpAny (model X.prog X.w) X.A (isTrue e X.env (eval e X.env)) (TP X pins σ Q) X.xe s
/-- a test whatever its 'whole' is (and, or) -/
def PW (X : Cx) (e : Expr) (t : TT) : Prop :=
  ∀ (whole : Sem Value) (pins : List (Addr × Obj)) (s : Shared) (σ : St) (H : Hp) (Q : Bool → Hp → Prop), Inv X pins σ H s → t σ H Q → wpAny (model X.prog X.w) X.A (isTrue e X.env whole) (TP X pins σ Q) X.xe s
theorem PW.pt {X : Cx} {e : Expr} {t : TT} (h : PW X e t) : PT X e t := h _
/-- an argument list (no star), from the left -/
def PA (X : Cx) (es : List Expr) (t : TA) : Prop :=
  ∀ (pos : Pos) (pins : List (Addr × Obj)) (s : Shared) (σ : St) (H : Hp) (Q : List V → Hp → Prop), Inv X pins σ H s → t σ H Q → wpAny (model X.prog X.w) X.A (spliced (backTo pos (starEach es X.env))) (AP X pins σ Q) X.xe s
def PS (X : Cx) (st : Stmt) (t : TS) : Prop :=
  ∀ (pins : List (Addr × Obj)) (s : Shared) (σ : St) (H : Hp) (D : Ends), Inv X pins σ H s → t D σ H → wpAny (model X.prog X.w) X.A (exec st X.env) (SP X pins D) X.xe s
def PSs (X : Cx) (st : List Stmt) (t : TS) : Prop :=
  ∀ (pins : List (Addr × Obj)) (s : Shared) (σ : St) (H : Hp) (D : Ends), Inv X pins σ H s → t D σ H → wpAny (model X.prog X.w) X.A (execs st X.env) (SP X pins D) X.xe s
/-- weaken the end -/
theorem thn {α : Type} {t : Sem α} {Q Q' : α → Shared → Prop} {M : Model} {A : Around} {E : Value → Shared → Prop} {s : Shared} (h : wpAny M A t Q E s) (hQ : ∀ a s, Q a s → Q' a s) : wpAny M A t Q' E s := wpAny_mono h hQ fun _ _ x => x
end L2

namespace L2
open PySem PySem.Spec PyProof.Rows
section
variable {X : Cx}

/-! ### names and constants -/
def tVar (i : Nat) : TE := fun σ H Q => ∃ v, σ[i]? = some (some v) ∧ Q v H
def tC (v : V) : TE := fun _ H Q => Q v H
theorem pe_var {i : Nat} {x : Str} {pos : Pos} (hN : X.N[i]? = some x) (hv : Vis X.env.scope x) (hd : (x == ("__debug__" : Str)) = false := by decide) (hcd : (x == ("__classdict__" : Str)) = false := by decide) : PE X (.Name x pos) (tVar i) := by
  intro pins s σ H Q I h
  obtain ⟨v, e, h⟩ := h
  obtain ⟨m, hn, hl⟩ := I.loc
  obtain ⟨u, r, l⟩ := hl i x v hN e hv
  have fin : EP X pins σ Q u s := ⟨v, H, I, r, h⟩
  rcases l with ⟨hk, hm⟩ | ⟨hk, c, hc, hcell⟩
  · exact wpAny_Name (wpAny_loadName_local I.ok.kind hk hn hm fin) hd
  · rcases hk with hk | hk
    · exact wpAny_Name (wpAny_loadName_cell I.ok.kind hk hc hcell fin) hd
    · exact wpAny_Name (wpAny_loadName_free I.ok.kind hk hc hcell fin hcd) hd
theorem pe_int {i j pos} : PE X (.Constant (.int i) j pos) (tC (.int i)) := fun _ _ _ H _ I h => wpAny_Constant_int ⟨.int i, H, I.tok _, ⟨_, rfl⟩, h⟩
theorem pe_bl {b j pos} : PE X (.Constant (.bool b) j pos) (tC (.bl b)) := fun _ _ _ H _ I h => Constant_bool ⟨.bl b, H, I, rfl, h⟩
theorem pe_non {j pos} : PE X (.Constant .none j pos) (tC .non) := fun _ _ _ H _ I h => Constant_none ⟨.non, H, I, rfl, h⟩
theorem pe_str {x j pos} : PE X (.Constant (.str x) j pos) (tC (.str x)) := fun _ _ _ H _ I h => Calls.Constant_str ⟨.str x, H, I.tok _, ⟨_, rfl⟩, h⟩

/-- a global name of the def -/
def Gl (X : Cx) (x : Str) : Prop := X.env.kindOf x = some .globalImplicit
theorem ld_glob {E : Value → Shared → Prop} {pins : List (Addr × Obj)} {s : Shared} {σ : St} {H : Hp} {x : Str} {u : Value} {pos : Pos} {Q : Value → Shared → Prop} (I : Inv X pins σ H s) (hg : Gl X x) (hm : X.mg x = some u) (h : Q u s)
    (hd : (x == ("__debug__" : Str)) = false := by decide) : wpAny (model X.prog X.w) X.A (eval (.Name x pos) X.env) Q E s :=
  Calls.Name_function_global I.ok.kind hg (Calls.loadGlobal_global (by rw [I.ok.glob]; exact I.mod.glob.keeps I.bk) hm h) hd
theorem ld_blt {E : Value → Shared → Prop} {pins : List (Addr × Obj)} {s : Shared} {σ : St} {H : Hp} {x : Str} {u : Value} {pos : Pos} {Q : Value → Shared → Prop} (I : Inv X pins σ H s) (hg : Gl X x) (hm : X.mg x = none) (hv : bootBuiltins x = some u) (h : Q u s)
    (hn : x ≠ "__name__" := by decide) (hd : (x == ("__debug__" : Str)) = false := by decide) : wpAny (model X.prog X.w) X.A (eval (.Name x pos) X.env) Q E s := by
  obtain ⟨mb, h1, h2⟩ := I.mod.blt
  exact Calls.Name_function_global I.ok.kind hg (Calls.loadGlobal_builtin (by rw [I.ok.glob]; exact I.mod.glob.keeps I.bk) hm (by rw [I.ok.blt]; exact h1.keeps I.bk) ((h2 x hn).trans hv) h) hd
/-- a module's constant, a class, a function, as a value -/
theorem pe_glob {x : Str} {v : V} {u : Value} {pos : Pos} (hg : Gl X x) (hm : X.mg x = some u) (r : RelV v u) (hd : (x == ("__debug__" : Str)) = false := by decide) : PE X (.Name x pos) (tC v) :=
  fun _ _ _ H _ I h => ld_glob I hg hm ⟨v, H, I, r, h⟩ hd
theorem pe_bltn {x : Str} {v : V} {u : Value} {pos : Pos} (hg : Gl X x) (hm : X.mg x = none) (hv : bootBuiltins x = some u) (r : RelV v u) (hn : x ≠ "__name__" := by decide) (hd : (x == ("__debug__" : Str)) = false := by decide) : PE X (.Name x pos) (tC v) :=
  fun _ _ _ H _ I h => ld_blt I hg hm hv ⟨v, H, I, r, h⟩ hn hd

/-! ### arithmetic -/
variable {a b : Expr} {ta tb : TE} {pos : Pos}
/-! ### comparisons -/
def PC (X : Cx) (op : CmpOp) (a b : Expr) (t : TE) : Prop :=
  ∀ (pins : List (Addr × Obj)) (s : Shared) (σ : St) (H : Hp) (Q : VK), Inv X pins σ H s → t σ H Q →
    wpAny (model X.prog X.w) X.A (eval a X.env) (fun v s₁ => wpAny (model X.prog X.w) X.A (eval b X.env) (fun u s₂ => wpAny (model X.prog X.w) X.A (compareOp op v u) (EP X pins σ Q) X.xe s₂) X.xe s₁) X.xe s
theorem nobehind (b : Expr) {op : CmpOp} (h : op ≠ .In) (h2 : op ≠ .NotIn) : behindInMarks op b = false := by
  have e1 : (op == CmpOp.In) = false := by cases op <;> first | rfl | exact absurd rfl h
  have e2 : (op == CmpOp.NotIn) = false := by cases op <;> first | rfl | exact absurd rfl h2
  cases b <;> simp [behindInMarks, e1, e2]
/-- is None -/
def tIsN (ta : TE) : TE := fun σ H Q => ta σ H fun x H1 => Q (.bl (decide (x = .non))) H1
def tNotN (ta : TE) : TE := fun σ H Q => ta σ H fun x H1 => Q (.bl (!decide (x = .non))) H1
theorem RelV.none_iff {x : V} {v : Value} (r : RelV x v) : (v == Value.none) = decide (x = .non) := by
  cases x with
  | non => cases r; rfl
  | bl _ => cases r; rfl
  | int _ => obtain ⟨t, rfl⟩ := r; rfl
  | str _ => obtain ⟨t, rfl⟩ := r; rfl
  | byt _ => obtain ⟨t, rfl⟩ := r; rfl
  | flt _ => obtain ⟨t, rfl⟩ := r; rfl
  | ref _ => cases r; rfl
  | ty _ => cases r; rfl
theorem pc_isN {j pos'} (ha : PE X a ta) : PC X .Is a (.Constant .none j pos') (tIsN ta) := by
  intro pins s σ H Q I h
  refine thn (ha pins s σ H _ I h) fun v s1 ⟨x, H1, I1, r1, q1⟩ => ?_
  exact Constant_none (is_none_gen ⟨.bl _, H1, I1, by rw [r1.none_iff]; rfl, q1⟩)
theorem pc_notN {j pos'} (ha : PE X a ta) : PC X .IsNot a (.Constant .none j pos') (tNotN ta) := by
  intro pins s σ H Q I h
  refine thn (ha pins s σ H _ I h) fun v s1 ⟨x, H1, I1, r1, q1⟩ => ?_
  exact Constant_none (isnot_none_gen ⟨.bl _, H1, I1, by rw [r1.none_iff]; rfl, q1⟩)
/-- a comparison as a value, as a test -/
def tB (t : TE) : TT := fun σ H Q => t σ H fun x H1 => ∃ c, x = .bl c ∧ Q c H1
theorem pe_cmp {op : CmpOp} {t : TE} (h : PC X op a b t) (h1 : behindInMarks op b = false := by first | exact nobehind _ (by decide) (by decide) | rfl) : PE X (.Compare a [op] [b] pos) t := fun pins s σ H Q I hw => wpAny_Compare1 (h pins s σ H Q I hw) h1
theorem pt_cmp {op : CmpOp} {t : TE} (h : PC X op a b t) (h1 : behindInMarks op b = false := by first | exact nobehind _ (by decide) (by decide) | rfl) : PT X (.Compare a [op] [b] pos) (tB t) := by
  intro pins s σ H Q I hw
  refine wpAny_isTrue_Compare1 (thn (h pins s σ H _ I hw) fun v s1 h1 => thn h1 fun u s2 h2 => thn h2 fun c s3 ⟨x, H1, I1, r1, q1⟩ => ?_) h1
  obtain ⟨d, rfl, q⟩ := q1
  cases r1
  exact wpAny_truthy_bool ⟨H1, I1, q⟩
/-- an expression whose value is a bool, as a test -/
theorem pt_val {e : Expr} {t : TE} (h : PE X e t) (he : ∀ whole, isTrue e X.env whole = (do let v ← whole; standAt e.pos; holding [v] (truthy v)) := by intro _; rfl) : PT X e (tB t) := by
  intro pins s σ H Q I hw
  refine isTrue_plain (thn (h pins s σ H _ I hw) fun v s1 ⟨x, H1, I1, r1, q1⟩ => ?_) (he _)
  obtain ⟨d, rfl, q⟩ := q1
  cases r1
  exact wpAny_truthy_bool ⟨H1, I1, q⟩

/-! ### and, or, not -/
variable {tA tB' : TT} {rest : List Expr}
def tAnd (t u : TT) : TT := fun σ H Q => t σ H fun c H1 => if c = true then u σ H1 Q else Q false H1
def tOr (t u : TT) : TT := fun σ H Q => t σ H fun c H1 => if c = true then Q true H1 else u σ H1 Q
def tNot (t : TT) : TT := fun σ H Q => t σ H fun c H1 => Q (!c) H1
theorem pw_and1 (ha : PT X a tA) : PW X (.BoolOp .And [a] pos) tA := by
  intro wh pins s σ H Q I h
  refine isTrue_and (thn (ha pins s σ H Q I h) fun c s1 e => ?_)
  cases c with
  | true => exact isTrue_and_nil e
  | false => exact e
theorem pw_or1 (ha : PT X a tA) : PW X (.BoolOp .Or [a] pos) tA := by
  intro wh pins s σ H Q I h
  refine isTrue_or (thn (ha pins s σ H Q I h) fun c s1 e => ?_)
  cases c with
  | false => exact isTrue_or_nil e
  | true => exact e
theorem pw_and (ha : PT X a tA) (hb : PW X (.BoolOp .And (b :: rest) pos) tB') : PW X (.BoolOp .And (a :: b :: rest) pos) (tAnd tA tB') := by
  intro wh pins s σ H Q I h
  refine isTrue_and (thn (ha pins s σ H _ I h) fun c s1 ⟨H1, I1, q1⟩ => ?_)
  cases c with
  | true => exact hb wh pins s1 σ H1 Q I1 q1
  | false => exact ⟨H1, I1, q1⟩
theorem pw_or (ha : PT X a tA) (hb : PW X (.BoolOp .Or (b :: rest) pos) tB') : PW X (.BoolOp .Or (a :: b :: rest) pos) (tOr tA tB') := by
  intro wh pins s σ H Q I h
  refine isTrue_or (thn (ha pins s σ H _ I h) fun c s1 ⟨H1, I1, q1⟩ => ?_)
  cases c with
  | true => exact ⟨H1, I1, q1⟩
  | false => exact hb wh pins s1 σ H1 Q I1 q1
theorem pt_not (ha : PT X a tA) : PT X (.UnaryOp .Not a pos) (tNot tA) := by
  intro pins s σ H Q I h
  exact isTrue_not (ha pins s σ H (fun c H1 => Q (!c) H1) I h)
/-- .. as values (bools) -/
def tAndV (ta tb : TE) : TE := fun σ H Q => ta σ H fun x H1 => ∃ c, x = .bl c ∧ if c = true then tb σ H1 Q else Q (.bl false) H1
def tOrV (ta tb : TE) : TE := fun σ H Q => ta σ H fun x H1 => ∃ c, x = .bl c ∧ if c = true then Q (.bl true) H1 else tb σ H1 Q
def tNotV (ta : TE) : TE := fun σ H Q => ta σ H fun x H1 => ∃ c, x = .bl c ∧ Q (.bl (!c)) H1
theorem pe_one {op} {t : TE} (h : PE X a t) : PE X (.BoolOp op [a] pos) t := fun pins s σ H Q I hw => BoolOp_one (h pins s σ H Q I hw)
theorem pe_and (ha : PE X a ta) (hb : PE X (.BoolOp .And (b :: rest) pos) tb) : PE X (.BoolOp .And (a :: b :: rest) pos) (tAndV ta tb) := by
  intro pins s σ H Q I h
  refine BoolOp_and (thn (ha pins s σ H _ I h) fun v s1 ⟨x, H1, I1, r1, q1⟩ => ?_)
  obtain ⟨c, rfl, q1⟩ := q1
  cases r1
  refine wpAny_truthy_bool ?_
  cases c with
  | true => exact hb pins s1 σ H1 Q I1 q1
  | false => exact ⟨.bl false, H1, I1, rfl, q1⟩
theorem pe_or (ha : PE X a ta) (hb : PE X (.BoolOp .Or (b :: rest) pos) tb) : PE X (.BoolOp .Or (a :: b :: rest) pos) (tOrV ta tb) := by
  intro pins s σ H Q I h
  refine BoolOp_or (thn (ha pins s σ H _ I h) fun v s1 ⟨x, H1, I1, r1, q1⟩ => ?_)
  obtain ⟨c, rfl, q1⟩ := q1
  cases r1
  refine wpAny_truthy_bool ?_
  cases c with
  | false => exact hb pins s1 σ H1 Q I1 q1
  | true => exact ⟨.bl true, H1, I1, rfl, q1⟩
theorem pe_not (ha : PE X a ta) : PE X (.UnaryOp .Not a pos) (tNotV ta) := by
  intro pins s σ H Q I h
  refine UnaryOp_ (thn (ha pins s σ H _ I h) fun v s1 ⟨x, H1, I1, r1, q1⟩ => ?_)
  obtain ⟨c, rfl, q1⟩ := q1
  cases r1
  exact not_of (wpAny_truthy_bool ⟨.bl (!c), H1, I1, rfl, q1⟩)
/-- a if t else b -/
def tIf (t : TT) (ta tb : TE) : TE := fun σ H Q => t σ H fun c H1 => if c = true then ta σ H1 Q else tb σ H1 Q
theorem pe_ifExp {c : Expr} (hc : PT X c tA) (ha : PE X a ta) (hb : PE X b tb) : PE X (.IfExp c a b pos) (tIf tA ta tb) := by
  intro pins s σ H Q I h
  refine wpAny_IfExp (thn (hc pins s σ H _ I h) fun d s1 ⟨H1, I1, q1⟩ => ?_)
  cases d with
  | true => exact ha pins s1 σ H1 Q I1 q1
  | false => exact hb pins s1 σ H1 Q I1 q1
end
end L2

namespace L2
open PySem PySem.Spec PyProof.Rows

/-! ### a list, a tuple that is read: tracked, frozen, or an object of the module -/
def SqL (K : PySem.W.Frag) (H : Hp) (a : Addr) (xs : List V) : Prop :=
  Rd H a (.lst xs) ∨
    ∃ (o : Obj) (its : Array Value) (n : Nat), K.lookup a = some o ∧ o.cls = .type "list" ∧ o.dict = none ∧ o.data = .seq its n ∧ its.size ≤ sizeLine ∧ Vals xs its.toList
def SqT (K : PySem.W.Frag) (H : Hp) (a : Addr) (xs : List V) : Prop :=
  Rd H a (.tup xs) ∨
    ∃ (o : Obj) (its : Array Value) (n : Nat), K.lookup a = some o ∧ o.cls = .type "tuple" ∧ o.data = .seq its n ∧ its.size ≤ sizeLine ∧ Vals xs its.toList
def absV : Value → Option V
  | .none => some .non
  | .bool b => some (.bl b)
  | .int i _ => some (.int i)
  | .str x _ => some (.str x)
  | .bytes b _ => some (.byt b)
  | .float b _ => some (.flt b)
  | .ref a => some (.ref a)
  | .type n => some (.ty n)
  | _ => none
theorem RelV.abs {x : V} {u : Value} (r : RelV x u) : absV u = some x := by
  cases x with
  | non => cases r; rfl
  | bl _ => cases r; rfl
  | int _ => obtain ⟨t, rfl⟩ := r; rfl
  | str _ => obtain ⟨t, rfl⟩ := r; rfl
  | byt _ => obtain ⟨t, rfl⟩ := r; rfl
  | flt _ => obtain ⟨t, rfl⟩ := r; rfl
  | ref _ => cases r; rfl
  | ty _ => cases r; rfl
theorem RelV.inj {x y : V} {u : Value} (r : RelV x u) (q : RelV y u) : x = y := Option.some.inj (r.abs.symm.trans q.abs)
theorem Vals.inj : ∀ {xs ys : List V} {us : List Value}, Vals xs us → Vals ys us → xs = ys
  | _, _, _, .nil, .nil => rfl
  | _, _, _, .cons r t, .cons r' t' => by rw [r.inj r', Vals.inj t t']
section
variable {X : Cx} {pins : List (Addr × Obj)} {σ : St} {H : Hp} {s : Shared} {a : Addr} {xs ys : List V}
theorem SqL.of {K : PySem.W.Frag} (h : H a = some (.lst xs)) : SqL K H a xs := .inl (.inl h)
theorem SqT.of {K : PySem.W.Frag} (h : H a = some (.tup xs)) : SqT K H a xs := .inl (.inl h)
theorem Inv.list (I : Inv X pins σ H s) (h : SqL X.K H a xs) : ∃ its : List Value, Vals xs its ∧ PlainL s.heap a its.toArray ∧ xs.length ≤ sizeLine := by
  rcases h with h | ⟨o, its, n, hk, hc, hd, hs, hz, r⟩
  · obtain ⟨z, its, n, r, e⟩ := h.ok I.hok
    exact ⟨its, r, ⟨_, n, e, rfl, rfl, rfl⟩, z⟩
  · refine ⟨its.toList, r, ⟨o, n, I.kIn a o hk, hc, hd, by simpa using hs⟩, ?_⟩
    have e := r.length
    simp only [Array.length_toList] at e
    omega
theorem Inv.tuple (I : Inv X pins σ H s) (h : SqT X.K H a xs) : ∃ its : List Value, Vals xs its ∧ IsTup s.heap a its.toArray ∧ xs.length ≤ sizeLine := by
  rcases h with h | ⟨o, its, n, hk, hc, hs, hz, r⟩
  · obtain ⟨z, its, r, p⟩ := h.ok I.hok
    exact ⟨its, r, p, z⟩
  · refine ⟨its.toList, r, ⟨o, I.kIn a o hk, hc, n, by simpa using hs⟩, ?_⟩
    have e := r.length
    simp only [Array.length_toList] at e
    omega
theorem Inv.list_inj (I : Inv X pins σ H s) (h : SqL X.K H a xs) (h' : SqL X.K H a ys) : xs = ys := by
  obtain ⟨its, r, ⟨o, n, e, _, _, d⟩, _⟩ := I.list h
  obtain ⟨its', r', ⟨o', n', e', _, _, d'⟩, _⟩ := I.list h'
  rw [e] at e'; cases e'
  rw [d] at d'
  injection d' with d1 _
  have : its = its' := by simpa using congrArg Array.toList d1
  subst this
  exact r.inj r'
theorem Inv.tuple_inj (I : Inv X pins σ H s) (h : SqT X.K H a xs) (h' : SqT X.K H a ys) : xs = ys := by
  obtain ⟨its, r, ⟨o, e, _, n, d⟩, _⟩ := I.tuple h
  obtain ⟨its', r', ⟨o', e', _, n', d'⟩, _⟩ := I.tuple h'
  rw [e] at e'; cases e'
  rw [d] at d'
  injection d' with d1 _
  have : its = its' := by simpa using congrArg Array.toList d1
  subst this
  exact r.inj r'
end

/-! ### another wish about exceptions -/
abbrev Cx.wish (X : Cx) (E : Value → Shared → Prop) : Cx := { X with xe := E }
/-- no exception leaves -/
abbrev Cx.nox (X : Cx) : Cx := X.wish fun _ _ => False
theorem Cx.Ok.wish {X : Cx} (ok : X.Ok) (E : Value → Shared → Prop) : (X.wish E).Ok :=
  ⟨ok.mod, ok.kind, ok.glob, ok.blt, ok.above, ok.inj, ok.has, ok.cab, ok.hd, ok.frames, ok.stk, ok.exf, ok.bs, ok.bsz, ok.noex, ok.exfs, ok.funs, ok.frf⟩
theorem Cx.Ok.unwish {X : Cx} {E : Value → Shared → Prop} (ok : (X.wish E).Ok) : X.Ok :=
  ⟨ok.mod, ok.kind, ok.glob, ok.blt, ok.above, ok.inj, ok.has, ok.cab, ok.hd, ok.frames, ok.stk, ok.exf, ok.bs, ok.bsz, ok.noex, ok.exfs, ok.funs, ok.frf⟩
section
variable {X : Cx} {pins : List (Addr × Obj)} {σ : St} {H : Hp} {s : Shared} {E : Value → Shared → Prop}
theorem Inv.wish (I : Inv X pins σ H s) (E : Value → Shared → Prop) : Inv (X.wish E) pins σ H s := ⟨I.ok.wish E, I.os, I.bare, I.base, I.loc, I.cell, I.free, I.freeC, I.pin, I.hok, I.len⟩
theorem Inv.unwish (I : Inv (X.wish E) pins σ H s) : Inv X pins σ H s := ⟨I.ok.unwish, I.os, I.bare, I.base, I.loc, I.cell, I.free, I.freeC, I.pin, I.hok, I.len⟩
theorem SP.unwish {D : Ends} {f : Flow} {s' : Shared} (h : SP (X.wish E) pins D f s') : SP X pins D f s' := by
  cases f with
  | next => obtain ⟨σ', H', I, q⟩ := h; exact ⟨σ', H', I.unwish, q⟩
  | brk => obtain ⟨σ', H', I, q⟩ := h; exact ⟨σ', H', I.unwish, q⟩
  | cont => obtain ⟨σ', H', I, q⟩ := h; exact ⟨σ', H', I.unwish, q⟩
  | ret u => obtain ⟨v, σ', H', I, r, q⟩ := h; exact ⟨v, σ', H', I.unwish, r, q⟩
theorem PSs.nox {st : List Stmt} {t : TS} (h : PSs X.nox st t) : PSs X st t := fun pins s σ H D I hw =>
  wpAny_mono (h pins s σ H D (I.wish _) hw) (fun _ _ q => q.unwish) fun _ _ z => False.elim z
end

/-! ### blocks and small statements -/
section
variable {X : Cx} {st : Stmt} {rest : List Stmt} {t u : TS} {e : Expr} {te : TE} {pos : Pos}
def tNext : TS := fun D σ H => D.nx σ H
def tSeq (t u : TS) : TS := fun D σ H => t { D with nx := u D } σ H
theorem pss_nil : PSs X [] tNext := fun _ _ σ H _ I h => wpAny_execs_nil ⟨σ, H, I, h⟩
theorem pss_cons (h1 : PS X st t) (h2 : PSs X rest u) : PSs X (st :: rest) (tSeq t u) := by
  intro pins s σ H D I h
  refine wpAny_execs_cons (thn (h1 pins s σ H { D with nx := u D } I h) fun f s1 q => ?_)
  cases f with
  | next =>
    obtain ⟨σ', H', I', q⟩ := q
    exact h2 pins s1 σ' H' D I' q
  | ret v => exact q
  | brk => exact q
  | cont => exact q
theorem pss_one (h1 : PS X st t) : PSs X [st] t := by
  intro pins s σ H D I h
  refine wpAny_execs_cons (thn (h1 pins s σ H D I h) fun f s1 q => ?_)
  cases f with
  | next => exact wpAny_execs_nil q
  | ret v => exact q
  | brk => exact q
  | cont => exact q
/-- in a def's body nothing is shown -/
theorem Inv.quiet {pins : List (Addr × Obj)} {σ : St} {H : Hp} {s : Shared} (I : Inv X pins σ H s) : interactive X.env = false := by simp [interactive, I.ok.kind]
/-- an expression whose value is dropped -/
def tDrop (te : TE) : TS := fun D σ H => te σ H fun _ H1 => D.nx σ H1
theorem ps_expr (he : PE X e te) (hs : swapsWith e none pos.line X.env = pure false := by rfl) : PS X (.Expr e pos) (tDrop te) := by
  intro pins s σ H D I h
  exact wpAny_Expr_any (thn (he pins s σ H _ I h) fun v s1 ⟨x, H1, I1, r1, q1⟩ => ⟨σ, H1, I1, q1⟩) I.quiet hs
def tRet (te : TE) : TS := fun D σ H => te σ H D.rt
theorem ps_ret (he : PE X e te) : PS X (.Return (some e) pos) (tRet te) := by
  intro pins s σ H D I h
  exact wpAny_Return_some (thn (he pins s σ H _ I h) fun v s1 ⟨x, H1, I1, r1, q1⟩ => ⟨x, σ, H1, I1, r1, q1⟩)
def tIfS (c : TT) (t u : TS) : TS := fun D σ H => c σ H fun b H1 => if b = true then t D σ H1 else u D σ H1
theorem ps_if {c : Expr} {a b : List Stmt} {tc : TT} (hc : PT X c tc) (ha : PSs X a t) (hb : PSs X b u) : PS X (.If c a b pos) (tIfS tc t u) := by
  intro pins s σ H D I h
  refine wpAny_If (thn (hc pins s σ H _ I h) fun d s1 ⟨H1, I1, q1⟩ => ?_)
  cases d with
  | true => exact ha pins s1 σ H1 D I1 q1
  | false => exact hb pins s1 σ H1 D I1 q1
/-- code that the proof never comes to -/
def tNever : TS := fun _ _ _ => False
theorem pss_never {sts : List Stmt} : PSs X sts tNever := fun _ _ _ _ _ _ h => h.elim
end

/-! ### targets -/
abbrev TG := V → St → Hp → (St → Hp → Prop) → Prop
abbrev TGs := List V → St → Hp → (St → Hp → Prop) → Prop
def PG (X : Cx) (target : Expr) (t : TG) : Prop :=
  ∀ (pins : List (Addr × Obj)) (s : Shared) (σ : St) (H : Hp) (v : V) (u : Value) (Q : St → Hp → Prop), Inv X pins σ H s → RelV v u → t v σ H Q →
    wpAny (model X.prog X.w) X.A (assign target X.env u) (fun _ s' => ∃ σ' H', Inv X pins σ' H' s' ∧ Q σ' H') X.xe s
/-- several targets, one after another -/
def PGs (X : Cx) (ts : List Expr) (t : TGs) : Prop :=
  ∀ (pins : List (Addr × Obj)) (s : Shared) (σ : St) (H : Hp) (vs : List V) (us : List Value) (Q : St → Hp → Prop), Inv X pins σ H s → Vals vs us → t vs σ H Q →
    wpAny (model X.prog X.w) X.A (assignInOrder ((assignEach ts X.env).map (·.2)) us) (fun _ s' => ∃ σ' H', Inv X pins σ' H' s' ∧ Q σ' H') X.xe s
/-- o[i] = v, by values -/
abbrev TSet := V → V → V → Hp → (Hp → Prop) → Prop
def PSet (X : Cx) (t : TSet) : Prop :=
  ∀ (pins : List (Addr × Obj)) (s : Shared) (σ : St) (H : Hp) (o i v : V) (ov iv u : Value) (Q : Hp → Prop), Inv X pins σ H s → RelV o ov → RelV i iv → RelV v u → t o i v H Q →
    wpAny (model X.prog X.w) X.A (setItem ov iv u) (fun _ s' => ∃ H', Inv X pins σ H' s' ∧ Q H') X.xe s
section
variable {X : Cx} {pos : Pos}
def gName (i : Nat) : TG := fun v σ H Q => Q (σ.set i (some v)) H
theorem pg_name {i : Nat} {x : Str} (hN : X.N.Nodup) (hi : X.N[i]? = some x) (hx : Loc X.env.scope x) (hf : X.fn x = true ∨ X.env.scope.names.lookup x = some .local := by first | exact .inl rfl | exact .inr rfl | assumption) : PG X (.Name x pos) (gName i) := by
  intro pins s σ H v u Q I r h
  exact wpAny_assign_Name (store_ok I hN hi hx r (fun s' I' => ⟨_, H, I', h⟩) hf)
def gNil : TGs := fun vs σ H Q => vs = [] ∧ Q σ H
def gCons (t : TG) (u : TGs) : TGs := fun vs σ H Q => ∃ v r, vs = v :: r ∧ t v σ H fun σ' H' => u r σ' H' Q
theorem pgs_nil : PGs X [] gNil := by
  intro pins s σ H vs us Q I r h
  obtain ⟨e, h⟩ := h
  subst e
  cases r
  exact assignInOrder_nil ⟨σ, H, I, h⟩
theorem pgs_cons {e : Expr} {es : List Expr} {t : TG} {u : TGs} (h1 : PG X e t) (h2 : PGs X es u)
    (hs : (assignEach (e :: es) X.env).map (·.2) = assign e X.env :: (assignEach es X.env).map (·.2) := by rfl) : PGs X (e :: es) (gCons t u) := by
  intro pins s σ H vs us Q I r h
  obtain ⟨v, vr, e1, h⟩ := h
  subst e1
  cases r with
  | cons r rr =>
    rw [hs]
    refine assignInOrder_cons (thn (h1 pins s σ H _ _ _ I r h) fun _ s1 ⟨σ1, H1, I1, q1⟩ => ?_)
    exact h2 pins s1 σ1 H1 _ _ Q I1 rr q1
/-- (a, b, ..) = a tuple of that length -/
def gTup (K : PySem.W.Frag) (n : Nat) (t : TGs) : TG := fun v σ H Q => ∃ a xs, v = .ref a ∧ SqT K H a xs ∧ xs.length = n ∧ t xs σ H Q
theorem pg_tup {es : List Expr} {k : Nat} {t : TGs} {n : Nat} (hc : X.calm = true) (h : PGs X es t)
    (hn : (assignEach es X.env).length = n := by rfl) (hst : (assignEach es X.env).findIdx? (·.1) = none := by rfl) : PG X (.Tuple es k pos) (gTup X.K n t) := by
  intro pins s σ H v u Q I r hw
  obtain ⟨a, xs, e1, hq, hl, hw⟩ := hw
  subst e1
  cases r
  obtain ⟨its, rv, ht, hz⟩ := I.tuple hq
  refine assign_Tuple_tuple (I.ok.hd hc) ht (by simp [hn, ← hl, rv.length]) hst fun h' hx => ?_
  have I1 : Inv X pins σ H { s with heap := h' } := I.kept (t' := s.toks) fun b o e => hx b o (Nat.ne_of_lt (Heap.lt_size e)) e
  exact h pins _ σ H xs _ Q I1 (by simpa using rv) hw
/-- o[i] = .. -/
def gSub (to ti : TE) (t : TSet) : TG := fun v σ H Q => to σ H fun o H1 => ti σ H1 fun i H2 => t o i v H2 fun H3 => Q σ H3
theorem pg_sub {o i : Expr} {to ti : TE} {t : TSet} (ho : PE X o to) (hi : PE X i ti) (hs : PSet X t)
    (ha : ∀ v, assign (.Subscript o i pos) X.env v = (do
      let ov ← holding [v] (eval o X.env)
      let iv ← holding [v, ov] (eval i X.env)
      standAt pos
      holding [v, ov, iv] (setItem ov iv v)
      release [v, ov, iv] []) := by intro _; rfl) : PG X (.Subscript o i pos) (gSub to ti t) := by
  intro pins s σ H v u Q I r h
  rw [ha]
  refine wpAny_bind (wpAny_holding (thn (ho pins s σ H _ I h) fun ov s1 ⟨x, H1, I1, r1, q1⟩ => ?_))
  refine wpAny_bind (wpAny_holding (thn (hi pins s1 σ H1 _ I1 q1) fun iv s2 ⟨y, H2, I2, r2, q2⟩ => ?_))
  refine wpAny_bind (wpAny_standAt (wpAny_bind (wpAny_holding (thn (hs pins s2 σ H2 x y v ov iv u _ I2 r1 r2 r q2) fun _ s3 ⟨H3, I3, q3⟩ => ?_))))
  exact wpAny_release ⟨σ, H3, I3, q3⟩
/-- target = value -/
def tAsg (te : TE) (g : TG) : TS := fun D σ H => te σ H fun x H1 => g x σ H1 D.nx
theorem ps_asg {tg e : Expr} {te : TE} {g : TG} (he : PE X e te) (hg : PG X tg g) (hs : swapsWithSole [tg] e pos.line X.env = pure false := by rfl) (hw : swappedStores [tg] e X.env = pure none := by rfl)
    (h1 : (assignEach [tg] X.env).map (·.2) = [assign tg X.env] := by rfl) : PS X (.Assign [tg] e pos) (tAsg te g) := by
  intro pins s σ H D I h
  refine wpAny_Assign_stores (thn (he pins s σ H _ I h) fun v s1 ⟨x, H1, I1, r1, q1⟩ => ?_) hs hw
  rw [h1]
  exact thn (hg pins s1 σ H1 x v _ I1 r1 q1) fun _ s2 q => q
/-- name = value -/
theorem ps_set {i : Nat} {x : Str} {e : Expr} {te : TE} {pos' : Pos} (hN : X.N.Nodup) (hi : X.N[i]? = some x) (hx : Loc X.env.scope x) (he : PE X e te) (hs : swapsWith e (some (.Name x pos')) pos.line X.env = pure false := by rfl) (hf : X.fn x = true ∨ X.env.scope.names.lookup x = some .local := by first | exact .inl rfl | exact .inr rfl | assumption) :
    PS X (.Assign [.Name x pos'] e pos) (tAsg te (gName i)) := by
  intro pins s σ H D I h
  refine wpAny_Assign_Name (thn (he pins s σ H _ I h) fun v s1 ⟨y, H1, I1, r1, q1⟩ => ?_) hs
  exact store_ok I1 hN hi hx r1 (fun s2 I2 => ⟨_, H1, I2, q1⟩) hf
/-- a, b = x, y with plain local names: stored from the right; the pair itself is not tracked (the opening rows as in PyProof/Rows/TupAssign.lean:23) -/
def tPar (i j : Nat) (ta : TA) : TS := fun D σ H => ta σ H fun vs H1 => ∃ v w, vs = [v, w] ∧ D.nx ((σ.set i (some v)).set j (some w)) H1
theorem ps_par {i j : Nat} {x y : Str} {a b : Expr} {ta : TA} {px py pt : Pos} {kt k2 pt2} (hc : X.calm = true) (hN : X.N.Nodup) (hi : X.N[i]? = some x) (hj : X.N[j]? = some y) (hij : i ≠ j)
    (hx : X.env.scope.names.lookup x = some .local) (hy : X.env.scope.names.lookup y = some .local) (ha : PA X [a, b] ta)
    (hw : swappedStores [.Tuple [.Name x px, .Name y py] kt pt] (.Tuple [a, b] k2 pt2) X.env = pure (some [x, y]))
    (hs : swapsWithSole [.Tuple [.Name x px, .Name y py] kt pt] (.Tuple [a, b] k2 pt2) pos.line X.env = pure false := by rfl) :
    PS X (.Assign [.Tuple [.Name x px, .Name y py] kt pt] (.Tuple [a, b] k2 pt2) pos) (tPar i j ta) := by
  intro pins s σ H D I h
  rw [exec_Assign_arm]
  refine wpAny_bind (wpAny_standAt ?_)
  rw [hs]
  refine wpAny_bind (wpAny_pure ?_)
  rw [if_neg (by decide)]
  refine wpAny_bind (Tuple_ (thn (ha _ pins s σ H _ I h) fun us s1 ⟨vs, H1, I1, r1, q1⟩ => ?_))
  obtain ⟨v, w, e1, q1⟩ := q1
  subst e1
  obtain ⟨u1, u2, rfl, rv, rw'⟩ : ∃ u1 u2, us = [u1, u2] ∧ RelV v u1 ∧ RelV w u2 := by
    cases r1 with
    | cons p q =>
      cases q with
      | cons p' q' =>
        cases q'
        exact ⟨_, _, rfl, p, p'⟩
  refine wpAny_newObj_type ?_ (by show 2 ≤ sizeLine; decide)
  have I2 : Inv X pins σ H1 { s1 with heap := s1.heap.push { cls := .type "tuple", data := .seq [u1, u2].toArray } } := I1.kept (t' := s1.toks) fun b o e => Heap.get?_push_of_some _ e
  rw [hw]
  refine wpAny_bind (wpAny_pure ?_)
  show wpAny (model X.prog X.w) X.A (do rule "assign.swapped-stores"; let items ← unpackItems (.ref s1.heap.objs.size) 2 none; assignInOrder [fun v => bindName X.env y v, fun v => bindName X.env x v] items.reverse; pure Flow.next) _ _ _
  refine wpAny_bind (wpAny_rule (wpAny_bind (unpackItems_tuple (items := #[u1, u2]) (I.ok.hd hc) (IsTup.new s1.heap _) fun h' hx' => ?_)))
  have I3 := I2.kept (h' := h') (t' := s1.toks) fun b o e => hx' b o (Nat.ne_of_lt (Heap.lt_size e)) e
  show wpAny _ _ (assignInOrder [fun v => bindName X.env y v, fun v => bindName X.env x v] [u2, u1] >>= fun _ => pure Flow.next) _ _ _
  refine wpAny_bind (assignInOrder_cons (wpAny_bindName (store_ok I3 hN hj (.inl hy) rw' (fun s2 I4 => ?_) (.inr hy))))
  refine assignInOrder_cons (wpAny_bindName (store_ok I4 hN hi (.inl hx) rv (fun s3 I5 => assignInOrder_nil (wpAny_pure ?_)) (.inr hx)))
  rw [List.set_comm _ _ (Ne.symm hij)] at I5
  exact ⟨_, H1, I5, q1⟩
end

/-! ### while -/
section
variable {X : Cx} {pos : Pos}
/-- the invariant W with its measure -/
def tWhile (c : TT) (tb : TS) : TS := fun D σ H => ∃ W : Nat → St → Hp → Prop, (∃ m, W m σ H) ∧ ∀ m σ H, W m σ H →
  c σ H fun b H1 => if b = true then ∃ N : St → Hp → Prop, (∀ σ' H', N σ' H' → ∃ m', m' < m ∧ W m' σ' H') ∧ tb { D with nx := N, ct := N, bk := D.nx } σ H1 else D.nx σ H1
theorem ps_while {c : Expr} {body : List Stmt} {tc : TT} {tb : TS} (hp : PassesOwn (model X.prog X.w) X.A X.env X.xe) (hc : PT X c tc) (hb : PSs X body tb) : PS X (.While c body [] pos) (tWhile tc tb) := by
  intro pins s σ H D I h
  obtain ⟨W, ⟨m0, w0⟩, turn⟩ := h
  refine wpAny_While (codeAny_whileLoop (fun n s' => ∃ σ' H', Inv X pins σ' H' s' ∧ W n σ' H') ?_ m0 ⟨σ, H, I, w0⟩)
  rintro n s1 ⟨σ1, H1, I1, w1⟩
  refine wpAny_passesOwn hp (thn (hc pins s1 σ1 H1 _ I1 (turn n σ1 H1 w1)) fun b s2 ⟨H2, I2, q2⟩ => ?_)
  cases b with
  | true =>
    obtain ⟨N, hN, q2⟩ := q2
    rw [if_pos rfl]
    refine wpAny_passesOwn hp (thn (hb pins s2 σ1 H2 _ I2 q2) fun f s3 q3 => ?_)
    cases f with
    | next =>
      obtain ⟨σ3, H3, I3, n3⟩ := q3
      obtain ⟨m', hm, w3⟩ := hN σ3 H3 n3
      exact ⟨m', hm, σ3, H3, I3, w3⟩
    | cont =>
      obtain ⟨σ3, H3, I3, n3⟩ := q3
      obtain ⟨m', hm, w3⟩ := hN σ3 H3 n3
      exact ⟨m', hm, σ3, H3, I3, w3⟩
    | brk => exact q3
    | ret v => exact q3
  | false =>
    rw [if_neg Bool.false_ne_true]
    exact wpAny_execs_nil ⟨σ1, H2, I2, q2⟩
end

/-! ### what a loop or a comprehension walks -/
/-- at turn i: it yields x (the heap may grow), or it stops -/
structure It where
  go : Nat → Hp → Prop
  yld : Nat → Hp → V → Hp → Prop
  stop : Nat → Hp → Prop
/-- the iterator's own objects may turn: they are not the frame's, not pinned, younger than the entry (or a comprehension's own) -/
def FpOk (X : Cx) (pins : List (Addr × Obj)) (H : Hp) (b : Addr) : Prop :=
  H b = none ∧ b ≠ X.env.locals ∧ b ∉ X.fs ∧ (b ∈ X.ex ∨ X.s₀.heap.objs.size ≤ b) ∧ (∀ x c, X.env.cells.lookup x = some c → c ≠ b) ∧ ∀ p ∈ X.pn ++ pins, p.1 ≠ b
theorem Inv.fpOk {X : Cx} {pins : List (Addr × Obj)} {σ : St} {H H' : Hp} {s : Shared} {b : Addr} (I : Inv X pins σ H s) (hb : s.heap.objs.size ≤ b) (hn : H' b = none) : FpOk X pins H' b := by
  refine ⟨hn, Nat.ne_of_gt (Nat.lt_of_lt_of_le I.lt hb), I.nofs hb, .inr (Nat.le_trans I.sz hb), fun x c e z => ?_, fun p hp z => ?_⟩
  · obtain ⟨v, q⟩ := I.cell x c e
    exact absurd (Nat.lt_of_lt_of_le q.lt (by rw [z]; exact hb)) (Nat.lt_irrefl _)
  · exact absurd (Nat.lt_of_lt_of_le (Heap.lt_size (I.pin p hp).1) (by rw [z]; exact hb)) (Nat.lt_irrefl _)
structure Turn (P : Program) (w : World) (K : PySem.W.Frag) (tg : Expr) (J : It) (fp : List Addr) (it : Addr) (tn : Nat → Heap → Prop) : Prop where
  mem : it ∈ fp
  obj : ∀ i h, tn i h → ∀ b ∈ fp, ∃ o, h.get? b = some o ∧ ∀ v, o.data ≠ .cell v
  keep : ∀ i h h', tn i h → (∀ b ∈ fp, ∀ o, h.get? b = some o → h'.get? b = some o) → tn i h'
  item : ∀ (X : Cx), X.prog = P → X.w = w → X.K = K → X.calm = true → ∀ (i : Nat) (pins : List (Addr × Obj)) (s : Shared) (σ : St) (H : Hp) (E : Value → Shared → Prop), Inv X pins σ H s → (∀ b ∈ fp, FpOk X pins H b) → tn i s.heap → J.go i H →
    wpAny (model P w) X.A (pyNext (.ref it)) (fun r s1 => ∃ u, r = some u ∧
      wpAny (model P w) X.A (letOwnedTupleGo tg (.ref it) u) (fun _ s2 => ∃ x H', Inv X pins σ H' s2 ∧ RelV x u ∧ J.yld i H x H' ∧ tn (i + 1) s2.heap ∧ ∀ b ∈ fp, H' b = none) E s1) E s
  done : ∀ (X : Cx), X.prog = P → X.w = w → X.K = K → X.calm = true → ∀ (i : Nat) (pins : List (Addr × Obj)) (s : Shared) (σ : St) (H : Hp) (E : Value → Shared → Prop), Inv X pins σ H s → (∀ b ∈ fp, FpOk X pins H b) → tn i s.heap → J.stop i H →
    wpAny (model P w) X.A (pyNext (.ref it)) (fun r s1 => r = none ∧ Inv X pins σ H s1) E s
  self : ∀ (A : Around) (i : Nat) (s : Shared) (Q : Value → Shared → Prop) (E : Value → Shared → Prop), tn i s.heap → Q (.ref it) s → wpAny (model P w) A (pyIter (.ref it)) Q E s
abbrev TI := St → Hp → (It → Hp → Prop) → Prop
/-- an iterator has come -/
def PIE (X : Cx) (pins : List (Addr × Obj)) (σ : St) (tg : Expr) (R : It → Hp → Prop) (itv : Value) (s2 : Shared) : Prop :=
  ∃ (it : Addr) (fp : List Addr) (tn : Nat → Heap → Prop) (J : It) (H' : Hp), itv = .ref it ∧ Inv X pins σ H' s2 ∧ Turn X.prog X.w X.K tg J fp it tn ∧ tn 0 s2.heap ∧ (∀ b ∈ fp, FpOk X pins H' b) ∧ R J H'
def PI (X : Cx) (tg iter : Expr) (wi : TI) : Prop :=
  ∀ (pins : List (Addr × Obj)) (s : Shared) (σ : St) (H : Hp) (R : It → Hp → Prop), Inv X pins σ H s → wi σ H R →
    wpAny (model X.prog X.w) X.A (eval iter X.env) (fun v s1 => wpAny (model X.prog X.w) X.A (pyIter v) (PIE X pins σ tg R) X.xe s1) X.xe s

/-- the step ahead of the store is nothing for an iterator that keeps no tuple -/
theorem go_of {M : Model} {A : Around} {E : Value → Shared → Prop} {s : Shared} {tg : Expr} {it : Addr} {u : Value} {o : Obj} {n : String} {vs : Array Value} {Q : Unit → Shared → Prop} (ho : s.heap.get? it = some o) (hc : o.cls = .type n) (hd : o.data = .fields vs)
    (hn : ["enumerate", "zip", "dict_itemiterator", "dict_reverseitemiterator", "odict_iterator", "itertools.zip_longest", "itertools.pairwise"].contains n = false) (hQ : Q () s) : wpAny M A (letOwnedTupleGo tg (.ref it) u) Q E s := by
  unfold letOwnedTupleGo
  cases tg <;> first
    | exact wpAny_pure hQ
    | (cases u <;> first
        | exact wpAny_pure hQ
        | (refine wpAny_bind (wpAny_load ho ?_)
           rw [hc, hd]
           show wpAny M A (if (["enumerate", "zip", "dict_itemiterator", "dict_reverseitemiterator", "odict_iterator", "itertools.zip_longest", "itertools.pairwise"].contains n && vs[0]? == some (rawInt _)) = true then _ else _) Q E s
           rw [if_neg (by intro h; rw [hn, Bool.false_and] at h; cases h)]
           exact wpAny_pure hQ))

/-- the list at a, as it stands at each turn (a loop may append to it) -/
def Itl (K : PySem.W.Frag) (a : Addr) : It :=
  ⟨fun i H => ∃ xs x, SqL K H a xs ∧ xs[i]? = some x, fun i H x H' => H' = H ∧ ∀ xs, SqL K H a xs → xs[i]? = some x, fun i H => ∃ xs, SqL K H a xs ∧ xs.length ≤ i⟩
def Itt (K : PySem.W.Frag) (a : Addr) : It :=
  ⟨fun i H => ∃ xs x, SqT K H a xs ∧ xs[i]? = some x, fun i H x H' => H' = H ∧ ∀ xs, SqT K H a xs → xs[i]? = some x, fun i H => ∃ xs, SqT K H a xs ∧ xs.length ≤ i⟩
/-- lo, lo + 1, .. (n of them) -/
def Itr (lo : Int) (n : Nat) : It := ⟨fun i _ => i < n, fun i H x H' => H' = H ∧ x = .int (lo + i), fun i _ => n ≤ i⟩
theorem turn_list {P : Program} {w : World} {K : PySem.W.Frag} {tg : Expr} (a it : Addr) : Turn P w K tg (Itl K a) [it] it (fun i h => h.IsListIter it a i) where
  mem := by simp
  obj := fun i h st b hb => by
    have e : b = it := by simpa using hb
    subst e
    obtain ⟨o, e, c, d⟩ := st
    exact ⟨o, e, fun v z => by rw [d] at z; cases z⟩
  keep := fun i h h' st k => st.at fun o e => k it (by simp) o e
  item := by
    intro X hP hw hK hc i pins s σ H E I hf st hg
    subst hP hw hK
    obtain ⟨xs, x, hq, hx⟩ := hg
    obtain ⟨its, rv, p, hz⟩ := I.list hq
    obtain ⟨u, hu, ru⟩ := rv.get hx
    obtain ⟨f0, f1, f2, f3, f4, f5⟩ := hf it (by simp)
    refine wpAny_pyNext_list_item st p.isList (x := u) (by simpa using hu) fun h' st' sb => ?_
    have I1 : Inv X pins σ H { s with heap := h' } := I.turned (t' := s.toks) (fun b o hb e => (sb.2 b hb).trans e) f0 f1 f3 f4 f5
    obtain ⟨o, e, c, d⟩ := id st'
    exact ⟨u, rfl, go_of (s := { s with heap := h' }) e c d (by decide) ⟨x, H, I1, ru, ⟨rfl, fun ys hy => by rw [I.list_inj hy hq]; exact hx⟩, st', fun b hb => (hf b hb).1⟩⟩
  done := by
    intro X hP hw hK hc i pins s σ H E I hf st hg
    subst hP hw hK
    obtain ⟨xs, hq, hx⟩ := hg
    obtain ⟨its, rv, p, hz⟩ := I.list hq
    obtain ⟨f0, f1, f2, f3, f4, f5⟩ := hf it (by simp)
    have hl := rv.length
    exact wpAny_pyNext_list_end (I.ok.hd hc) st p.isList (by simp; omega) fun h' eb => ⟨rfl, I.turned (t' := s.toks) (fun b o hb e => eb b o hb e) f0 f1 f3 f4 f5⟩
  self := fun _ _ _ _ _ st h => wpAny_pyIter_listiter st h
theorem turn_tuple {P : Program} {w : World} {K : PySem.W.Frag} {tg : Expr} (a it : Addr) : Turn P w K tg (Itt K a) [it] it (fun i h => h.IsTupleIter it a i) where
  mem := by simp
  obj := fun i h st b hb => by
    have e : b = it := by simpa using hb
    subst e
    obtain ⟨o, e, c, d⟩ := st
    exact ⟨o, e, fun v z => by rw [d] at z; cases z⟩
  keep := fun i h h' st k => st.at fun o e => k it (by simp) o e
  item := by
    intro X hP hw hK hc i pins s σ H E I hf st hg
    subst hP hw hK
    obtain ⟨xs, x, hq, hx⟩ := hg
    obtain ⟨its, rv, p, hz⟩ := I.tuple hq
    obtain ⟨u, hu, ru⟩ := rv.get hx
    obtain ⟨f0, f1, f2, f3, f4, f5⟩ := hf it (by simp)
    refine wpAny_pyNext_tuple_item st (show s.heap.IsTuple a its.toArray from p) (x := u) (by simpa using hu) fun h' st' sb => ?_
    have I1 : Inv X pins σ H { s with heap := h' } := I.turned (t' := s.toks) (fun b o hb e => (sb.2 b hb).trans e) f0 f1 f3 f4 f5
    obtain ⟨o, e, c, d⟩ := id st'
    exact ⟨u, rfl, go_of (s := { s with heap := h' }) e c d (by decide) ⟨x, H, I1, ru, ⟨rfl, fun ys hy => by rw [I.tuple_inj hy hq]; exact hx⟩, st', fun b hb => (hf b hb).1⟩⟩
  done := by
    intro X hP hw hK hc i pins s σ H E I hf st hg
    subst hP hw hK
    obtain ⟨xs, hq, hx⟩ := hg
    obtain ⟨its, rv, p, hz⟩ := I.tuple hq
    obtain ⟨f0, f1, f2, f3, f4, f5⟩ := hf it (by simp)
    have hl := rv.length
    exact wpAny_pyNext_tuple_end (I.ok.hd hc) st (show s.heap.IsTuple a its.toArray from p) (by simp; omega) fun h' eb => ⟨rfl, I.turned (t' := s.toks) (fun b o hb e => eb b o hb e) f0 f1 f3 f4 f5⟩
  self := fun _ _ _ _ _ st h => wpAny_pyIter_tupleiter st h
theorem turn_range {P : Program} {w : World} {K : PySem.W.Frag} {tg : Expr} (it : Addr) (lo : Int) (n : Nat) : Turn P w K tg (Itr lo n) [it] it (fun i h => IsRangeIter h it (lo + (i : Nat) * 1) ((n : Int) - (i : Nat)) 1) where
  mem := by simp
  obj := fun i h st b hb => by
    have e : b = it := by simpa using hb
    subst e
    exact ⟨_, st, fun v z => by
      have z' : Data.fields _ = Data.cell v := z
      cases z'⟩
  keep := fun i h h' st k => k it (by simp) _ st
  item := by
    intro X hP hw hK hc i pins s σ H E I hf st hg
    subst hP hw hK
    obtain ⟨f0, f1, f2, f3, f4, f5⟩ := hf it (by simp)
    have W := Walks.range (prog := X.prog) (w := X.w) (I.ok.hd hc) it lo 1 n
    refine W.item i s _ _ hg st fun v h' tk hv st' kk => ?_
    obtain ⟨t, rfl⟩ := hv
    have I1 : Inv X pins σ H { s with heap := h', toks := tk } := I.turned (fun b o hb e => kk b o (by simpa using hb) e) f0 f1 f3 f4 f5
    refine ⟨_, rfl, go_of (s := { s with heap := h', toks := tk }) (n := "range_iterator") st' rfl rfl (by decide) ⟨.int (lo + i), H, I1, ⟨t, ?_⟩, ⟨rfl, rfl⟩, st', fun b hb => (hf b hb).1⟩⟩
    rw [Int.mul_one]
  done := by
    intro X hP hw hK hc i pins s σ H E I hf st hg
    subst hP hw hK
    obtain ⟨f0, f1, f2, f3, f4, f5⟩ := hf it (by simp)
    exact wpAny_pyNext_range_end (I.ok.hd hc) st (by have : n ≤ i := hg; omega) fun h' eb => ⟨rfl, I.turned (t' := s.toks) (fun b o hb e => eb b o hb e) f0 f1 f3 f4 f5⟩
  self := fun _ _ _ _ _ st h => wpAny_pyIter_rangeiter st h
end L2

namespace L2
open PySem PySem.Spec PyProof.Rows
section
variable {X : Cx} {tg : Expr}
def iList (K : PySem.W.Frag) (tl : TE) : TI := fun σ H R => tl σ H fun x H1 => ∃ a, x = .ref a ∧ (∃ xs, SqL K H1 a xs) ∧ R (Itl K a) H1
theorem pi_list {l : Expr} {tl : TE} (hl : PE X l tl) : PI X tg l (iList X.K tl) := by
  intro pins s σ H R I h
  refine thn (hl pins s σ H _ I h) fun v s1 ⟨x, H1, I1, r1, q1⟩ => ?_
  obtain ⟨a, e, ⟨xs, hq⟩, q⟩ := q1
  subst e
  cases r1
  obtain ⟨its, rv, p, hz⟩ := I1.list hq
  refine wpAny_pyIter_list p.isList ?_
  refine ⟨s1.heap.objs.size, [s1.heap.objs.size], _, _, H1, rfl, I1.kept (t' := s1.toks) fun b o e => Heap.get?_push_of_some _ e, turn_list a _, ⟨_, Heap.get?_push_size _ rfl, rfl, rfl⟩, fun b hb => ?_, q⟩
  have e : b = s1.heap.objs.size := by simpa using hb
  subst e
  exact I1.fpOk (Nat.le_refl _) (I1.hok.fresh (Nat.le_refl _))
/-- a range object just made, walked -/
theorem range_it {pins : List (Addr × Obj)} {σ : St} {H : Hp} {s : Shared} {R : It → Hp → Prop} {E : Value → Shared → Prop} {lo hi : Int} {t u v : Tok} {tk : Nat} (I : Inv X pins σ H s) (h1 : -(2 ^ 62) ≤ lo) (h2 : lo < 2 ^ 62) (h3 : -(2 ^ 62) ≤ hi) (h4 : hi < 2 ^ 62)
    (q : R (Itr lo (hi - lo).toNat) H) : wpAny (model X.prog X.w) X.A (pyIter (.ref s.heap.objs.size)) (PIE X pins σ tg R) E { s with heap := s.heap.push { cls := .type "range", data := .fields #[.int lo t, .int hi u, .int 1 v] }, toks := tk } := by
  refine wpAny_pyIter_range (IsRange.new ..) (small_one h1 h2 h3 h4) ?_
  have I1 : Inv X pins σ H { s with heap := s.heap.push { cls := .type "range", data := .fields #[.int lo t, .int hi u, .int 1 v] }, toks := tk } := I.kept fun b o e => Heap.get?_push_of_some _ e
  refine ⟨(s.heap.push { cls := .type "range", data := .fields #[.int lo t, .int hi u, .int 1 v] }).objs.size, [(s.heap.push { cls := .type "range", data := .fields #[.int lo t, .int hi u, .int 1 v] }).objs.size], _, _, H, rfl,
    I1.kept (t' := tk) fun b o e => Heap.get?_push_of_some _ e, turn_range _ lo (hi - lo).toNat, ?_, fun b hb => ?_, q⟩
  · have e1 : lo + ((0 : Nat) : Int) * 1 = lo := by simp
    have e2 : (((hi - lo).toNat : Nat) : Int) - ((0 : Nat) : Int) = Builtin.Range.rangeSize lo hi 1 := by rw [rangeSize_one]; split <;> omega
    show IsRangeIter _ _ (lo + ((0 : Nat) : Int) * 1) ((((hi - lo).toNat : Nat) : Int) - ((0 : Nat) : Int)) 1
    rw [e1, e2]
    exact Heap.get?_push_size _ rfl
  · have e : b = (s.heap.push { cls := .type "range", data := .fields #[.int lo t, .int hi u, .int 1 v] }).objs.size := by simpa using hb
    subst e
    exact I1.fpOk (Nat.le_refl _) (I1.hok.fresh (Nat.le_refl _))
def iRng1 (ta : TA) : TI := fun σ H R => ta σ H fun vs H1 => ∃ j : Int, vs = [.int j] ∧ -(2 ^ 62) ≤ j ∧ j < 2 ^ 62 ∧ R (Itr 0 j.toNat) H1
theorem pi_range1 {a : Expr} {ta : TA} {p pos : Pos} (hg : Gl X "range") (hm : X.mg "range" = none) (ha : PA X [a] ta) (hs : starEach [a] X.env = [(false, eval a X.env)] := by rfl) : PI X tg (.Call (.Name "range" p) [a] [] pos) (iRng1 ta) := by
  intro pins s σ H R I h
  refine Call_ (ld_blt I hg hm boot_range (PyProof.Rows.callWith_type1 (thn (ha pos pins s σ H _ I h) fun us s1 ⟨vs, H1, I1, r1, q1⟩ => ?_) hs rfl))
  obtain ⟨j, e, q1, q2, q⟩ := q1
  subst e
  cases r1 with
  | cons r rr =>
    cases rr
    obtain ⟨t, rfl⟩ := r
    exact call_range_1 (range_it I1 (by omega) (by omega) q1 q2 (by simpa using q))
/-! ### for -/
/-- W: the invariant by the turn and a measure; N: what the body is to reach -/
def tFor (wi : TI) (g : TG) (tb : TS) : TS := fun D σ H => wi σ H fun J H1 => ∃ W : Nat → Nat → St → Hp → Prop, (∃ m, W 0 m σ H1) ∧ ∀ i m σ H, W i m σ H →
  (J.stop i H ∧ D.nx σ H) ∨ (J.go i H ∧ ∃ N : St → Hp → Prop, (∀ σ' H', N σ' H' → ∃ m', m' < m ∧ W (i + 1) m' σ' H') ∧ ∀ x H', J.yld i H x H' → g x σ H' fun σ2 H2 => tb { D with nx := N, ct := N, bk := D.nx } σ2 H2)
/-- the records at fp as they stand -/
def pinsAt (fp : List Addr) (h : Heap) : List (Addr × Obj) := fp.filterMap fun b => (h.get? b).map fun o => (b, o)
theorem mem_pinsAt {fp : List Addr} {h : Heap} {b : Addr} {o : Obj} (hb : b ∈ fp) (e : h.get? b = some o) : (b, o) ∈ pinsAt fp h := List.mem_filterMap.mpr ⟨b, hb, by rw [e]; rfl⟩
theorem of_pinsAt {fp : List Addr} {h : Heap} {p : Addr × Obj} (hp : p ∈ pinsAt fp h) : p.1 ∈ fp ∧ h.get? p.1 = some p.2 := by
  obtain ⟨b, hb, e⟩ := List.mem_filterMap.mp hp
  cases q : h.get? b with
  | none => rw [q] at e; cases e
  | some o =>
    rw [q] at e
    have e' : (b, o) = p := Option.some.inj e
    subst e'
    exact ⟨hb, q⟩
theorem Inv.pinned {pins : List (Addr × Obj)} {σ : St} {H : Hp} {s : Shared} {fp : List Addr} (I : Inv X pins σ H s) (hf : ∀ b ∈ fp, FpOk X pins H b) (ho : ∀ b ∈ fp, ∃ o, s.heap.get? b = some o ∧ ∀ v, o.data ≠ .cell v) : Inv X (pins ++ pinsAt fp s.heap) σ H s :=
  I.pins_of fun p hp => (List.mem_append.mp hp).elim (fun z => I.pin p (List.mem_append_right _ z)) fun z => by
    obtain ⟨hb, e⟩ := of_pinsAt z
    obtain ⟨f0, f1, f2, _⟩ := hf p.1 hb
    obtain ⟨o, e', d⟩ := ho p.1 hb
    rw [e] at e'; cases e'
    exact ⟨e, f0, f1, f2, d⟩
theorem Inv.unpinned {pins pl : List (Addr × Obj)} {σ : St} {H : Hp} {s : Shared} (I : Inv X (pins ++ pl) σ H s) : Inv X pins σ H s := I.pins_of fun p hp => I.pin p (List.mem_append_right _ (List.mem_append_left _ hp))
theorem ps_for {iter : Expr} {body : List Stmt} {wi : TI} {g : TG} {tb : TS} {pos : Pos} (hp : PassesOwn (model X.prog X.w) X.A X.env X.xe) (hc : X.calm = true) (hi : PI X tg iter wi) (hg : PG X tg g) (hb : PSs X body tb)
    (hs : ∀ x, foldedSetIterable iter X.env x = pure x := by intro _; rfl) : PS X (.For tg iter body [] pos) (tFor wi g tb) := by
  intro pins s σ H D I h
  refine wpAny_For (thn (hi pins s σ H _ I h) fun v s1 h1 => thn h1 fun itv s2 h2 => ?_) hs
  obtain ⟨it, fp, tn, J, H2, e, I2, T, st2, f2, W, ⟨m0, w0⟩, turn⟩ := h2
  subst e
  -- what stays true of the iterator's objects through the loop
  have stat : ∀ {H' : Hp}, (∀ b ∈ fp, H' b = none) → ∀ b ∈ fp, FpOk X pins H' b := fun hn b hb => ⟨hn b hb, (f2 b hb).2⟩
  refine codeAny_forLoop_any (fun n s' => ∃ i σ' H', Inv X pins σ' H' s' ∧ tn i s'.heap ∧ (∀ b ∈ fp, H' b = none) ∧ W i n σ' H') ?_ m0 ⟨0, σ, H2, I2, st2, fun b hb => (f2 b hb).1, w0⟩
  rintro n s3 ⟨i, σ3, H3, I3, st3, fr3, w3⟩
  rcases turn i n σ3 H3 w3 with ⟨stop, qn⟩ | ⟨go, N, hN, step⟩
  · refine wpAny_passesOwn hp (thn (T.done X rfl rfl rfl hc i pins s3 σ3 H3 X.xe I3 (stat fr3) st3 stop) fun r s4 ⟨hr, I4⟩ => ?_)
    subst hr
    exact wpAny_execs_nil ⟨σ3, H3, I4, qn⟩
  · refine wpAny_passesOwn hp (thn (T.item X rfl rfl rfl hc i pins s3 σ3 H3 X.xe I3 (stat fr3) st3 go) fun r s4 ⟨u, hr, h4⟩ => ?_)
    subst hr
    refine wpAny_passesOwn hp (thn h4 fun _ s5 ⟨x, H5, I5, r5, y5, st5, fr5⟩ => ?_)
    have I5' := I5.pinned (stat fr5) (T.obj _ _ st5)
    refine wpAny_passesOwn hp (thn (hg _ s5 σ3 H5 x u _ I5' r5 (step x H5 y5)) fun _ s6 ⟨σ6, H6, I6, q6⟩ => ?_)
    refine wpAny_passesOwn hp (thn (hb _ s6 σ6 H6 _ I6 q6) fun f s7 q7 => ?_)
    have again : ∀ {σ7 : St} {H7 : Hp}, Inv X (pins ++ pinsAt fp s5.heap) σ7 H7 s7 → N σ7 H7 → ∃ m, m < n ∧ ∃ i σ' H', Inv X pins σ' H' s7 ∧ tn i s7.heap ∧ (∀ b ∈ fp, H' b = none) ∧ W i m σ' H' := fun {σ7 H7} I7 n7 => by
      obtain ⟨m', hm, w7⟩ := hN σ7 H7 n7
      refine ⟨m', hm, i + 1, σ7, H7, I7.unpinned, T.keep _ _ _ st5 fun b hb o e => (I7.pin (b, o) (List.mem_append_right _ (List.mem_append_right _ (mem_pinsAt hb e)))).1, fun b hb => ?_, w7⟩
      obtain ⟨o, e, d⟩ := T.obj _ _ st5 b hb
      exact (I7.pin (b, o) (List.mem_append_right _ (List.mem_append_right _ (mem_pinsAt hb e)))).2.1
    cases f with
    | next => obtain ⟨σ7, H7, I7, n7⟩ := q7; exact again I7 n7
    | cont => obtain ⟨σ7, H7, I7, n7⟩ := q7; exact again I7 n7
    | brk => obtain ⟨σ7, H7, I7, q7⟩ := q7; exact ⟨σ7, H7, I7.unpinned, q7⟩
    | ret v => obtain ⟨x7, σ7, H7, I7, r7, q7⟩ := q7; exact ⟨x7, σ7, H7, I7.unpinned, r7, q7⟩
end

/-! ### the forms one uses -/
/-- over a list that the body leaves as it is -/
theorem for_list {K : PySem.W.Frag} {a : Addr} {xs : List V} {g : TG} {tb : TS} {D : Ends} {σ : St} {H : Hp} (Pv : Nat → St → Hp → Prop) (h0 : Pv 0 σ H) (hl : ∀ i σ H, i ≤ xs.length → Pv i σ H → SqL K H a xs)
    (hs : ∀ i x σ H, xs[i]? = some x → Pv i σ H → g x σ H fun σ2 H2 => tb { D with nx := Pv (i + 1), ct := Pv (i + 1), bk := D.nx } σ2 H2) (hd : ∀ σ H, Pv xs.length σ H → D.nx σ H) :
    ∃ W : Nat → Nat → St → Hp → Prop, (∃ m, W 0 m σ H) ∧ ∀ i m σ H, W i m σ H →
      ((Itl K a).stop i H ∧ D.nx σ H) ∨ ((Itl K a).go i H ∧ ∃ N : St → Hp → Prop, (∀ σ' H', N σ' H' → ∃ m', m' < m ∧ W (i + 1) m' σ' H') ∧ ∀ x H', (Itl K a).yld i H x H' → g x σ H' fun σ2 H2 => tb { D with nx := N, ct := N, bk := D.nx } σ2 H2) := by
  refine ⟨fun i m σ H => m = xs.length - i ∧ i ≤ xs.length ∧ Pv i σ H, ⟨xs.length, by simp, Nat.zero_le _, h0⟩, ?_⟩
  rintro i m σ H ⟨rfl, hi, p⟩
  have q := hl i σ H hi p
  by_cases hlt : i < xs.length
  · refine .inr ⟨⟨xs, xs[i], q, by simp [hlt]⟩, Pv (i + 1), fun σ' H' p' => ⟨xs.length - (i + 1), by omega, rfl, hlt, p'⟩, fun x H' y => ?_⟩
    obtain ⟨e, y⟩ := y
    subst e
    exact hs i x σ _ (y xs q) p
  · have e : i = xs.length := by omega
    subst e
    exact .inl ⟨⟨xs, q, Nat.le_refl _⟩, hd σ H p⟩
theorem for_tup {K : PySem.W.Frag} {a : Addr} {xs : List V} {g : TG} {tb : TS} {D : Ends} {σ : St} {H : Hp} (Pv : Nat → St → Hp → Prop) (h0 : Pv 0 σ H) (hl : ∀ i σ H, i ≤ xs.length → Pv i σ H → SqT K H a xs)
    (hs : ∀ i x σ H, xs[i]? = some x → Pv i σ H → g x σ H fun σ2 H2 => tb { D with nx := Pv (i + 1), ct := Pv (i + 1), bk := D.nx } σ2 H2) (hd : ∀ σ H, Pv xs.length σ H → D.nx σ H) :
    ∃ W : Nat → Nat → St → Hp → Prop, (∃ m, W 0 m σ H) ∧ ∀ i m σ H, W i m σ H →
      ((Itt K a).stop i H ∧ D.nx σ H) ∨ ((Itt K a).go i H ∧ ∃ N : St → Hp → Prop, (∀ σ' H', N σ' H' → ∃ m', m' < m ∧ W (i + 1) m' σ' H') ∧ ∀ x H', (Itt K a).yld i H x H' → g x σ H' fun σ2 H2 => tb { D with nx := N, ct := N, bk := D.nx } σ2 H2) := by
  refine ⟨fun i m σ H => m = xs.length - i ∧ i ≤ xs.length ∧ Pv i σ H, ⟨xs.length, by simp, Nat.zero_le _, h0⟩, ?_⟩
  rintro i m σ H ⟨rfl, hi, p⟩
  have q := hl i σ H hi p
  by_cases hlt : i < xs.length
  · refine .inr ⟨⟨xs, xs[i], q, by simp [hlt]⟩, Pv (i + 1), fun σ' H' p' => ⟨xs.length - (i + 1), by omega, rfl, hlt, p'⟩, fun x H' y => ?_⟩
    obtain ⟨e, y⟩ := y
    subst e
    exact hs i x σ _ (y xs q) p
  · have e : i = xs.length := by omega
    subst e
    exact .inl ⟨⟨xs, q, Nat.le_refl _⟩, hd σ H p⟩
theorem for_range {lo : Int} {n : Nat} {g : TG} {tb : TS} {D : Ends} {σ : St} {H : Hp} (Pv : Nat → St → Hp → Prop) (h0 : Pv 0 σ H)
    (hs : ∀ i σ H, i < n → Pv i σ H → g (.int (lo + i)) σ H fun σ2 H2 => tb { D with nx := Pv (i + 1), ct := Pv (i + 1), bk := D.nx } σ2 H2) (hd : ∀ σ H, Pv n σ H → D.nx σ H) :
    ∃ W : Nat → Nat → St → Hp → Prop, (∃ m, W 0 m σ H) ∧ ∀ i m σ H, W i m σ H →
      ((Itr lo n).stop i H ∧ D.nx σ H) ∨ ((Itr lo n).go i H ∧ ∃ N : St → Hp → Prop, (∀ σ' H', N σ' H' → ∃ m', m' < m ∧ W (i + 1) m' σ' H') ∧ ∀ x H', (Itr lo n).yld i H x H' → g x σ H' fun σ2 H2 => tb { D with nx := N, ct := N, bk := D.nx } σ2 H2) := by
  refine ⟨fun i m σ H => m = n - i ∧ i ≤ n ∧ Pv i σ H, ⟨n, by simp, Nat.zero_le _, h0⟩, ?_⟩
  rintro i m σ H ⟨rfl, hi, p⟩
  by_cases hlt : i < n
  · refine .inr ⟨hlt, Pv (i + 1), fun σ' H' p' => ⟨n - (i + 1), by omega, rfl, hlt, p'⟩, fun x H' y => ?_⟩
    obtain ⟨e, y⟩ := y
    subst e y
    exact hs i σ _ hlt p
  · have e : i = n := by omega
    subst e
    exact .inl ⟨Nat.le_refl _, hd σ H p⟩
end L2

namespace L2
open PySem PySem.Spec PyProof.Rows

abbrev R2 := V → V → Hp → VK → Prop
/-- a two-place operation on values: f is binaryOp op, inplaceOp op or compareOp op -/
def OpR (X : Cx) (f : Value → Value → Sem Value) (r : R2) : Prop :=
  ∀ (pins : List (Addr × Obj)) (s : Shared) (σ : St) (H : Hp) (x y : V) (v u : Value) (Q : VK), Inv X pins σ H s → RelV x v → RelV y u → r x y H Q →
    wpAny (model X.prog X.w) X.A (f v u) (EP X pins σ Q) X.xe s
/-- a one-place operation -/
def UnR (X : Cx) (f : Value → Sem Value) (r : V → Hp → VK → Prop) : Prop :=
  ∀ (pins : List (Addr × Obj)) (s : Shared) (σ : St) (H : Hp) (x : V) (v : Value) (Q : VK), Inv X pins σ H s → RelV x v → r x H Q →
    wpAny (model X.prog X.w) X.A (f v) (EP X pins σ Q) X.xe s
/-- a call of a value that is known (a builtin, a type) with values -/
def CallR (X : Cx) (f : Value) (r : List V → Hp → VK → Prop) : Prop :=
  ∀ (pins : List (Addr × Obj)) (s : Shared) (σ : St) (H : Hp) (xs : List V) (us : List Value) (Q : VK), Inv X pins σ H s → Vals xs us → r xs H Q →
    wpAny (model X.prog X.w) X.A (call f us) (EP X pins σ Q) X.xe s
def tOp (r : R2) (ta tb : TE) : TE := fun σ H Q => ta σ H fun x H1 => tb σ H1 fun y H2 => r x y H2 Q
def tUn (r : V → Hp → VK → Prop) (ta : TE) : TE := fun σ H Q => ta σ H fun x H1 => r x H1 Q
/-- ints in, under C, and a value out -/
def rI (C : Int → Int → Prop) (g : Int → Int → V) : R2 := fun x y H Q => ∃ i j, x = .int i ∧ y = .int j ∧ C i j ∧ Q (g i j) H
def rI0 (g : Int → Int → V) : R2 := fun x y H Q => ∃ i j, x = .int i ∧ y = .int j ∧ Q (g i j) H
def rU (g : Int → V) : V → Hp → VK → Prop := fun x H Q => ∃ i, x = .int i ∧ Q (g i) H

section
variable {X : Cx} {a b c : Expr} {ta tb tc : TE} {pos : Pos}

theorem binT (ha : PE X a ta) (hb : PE X b tb) {pins : List (Addr × Obj)} {s : Shared} {σ : St} {H : Hp} {R : V → V → Hp → Prop} (I : Inv X pins σ H s)
    (h : ta σ H fun x H1 => tb σ H1 fun y H2 => R x y H2) {Q : Value → Shared → Prop} {f : Value → Value → Sem Value}
    (hf : ∀ v u s2 x y H2, Inv X pins σ H2 s2 → RelV x v → RelV y u → R x y H2 → wpAny (model X.prog X.w) X.A (f v u) Q X.xe s2) :
    wpAny (model X.prog X.w) X.A (eval a X.env) (fun v s₁ => wpAny (model X.prog X.w) X.A (eval b X.env) (fun u s₂ => wpAny (model X.prog X.w) X.A (f v u) Q X.xe s₂) X.xe s₁) X.xe s := by
  refine thn (ha pins s σ H _ I h) fun v s1 ⟨x, H1, I1, r1, q1⟩ => ?_
  refine thn (hb pins s1 σ H1 _ I1 q1) fun u s2 ⟨y, H2, I2, r2, q2⟩ => ?_
  exact hf v u s2 x y H2 I2 r1 r2 q2

theorem pe_op {op : Operator} {r : R2} (ho : OpR X (binaryOp op) r) (ha : PE X a ta) (hb : PE X b tb) : PE X (.BinOp a op b pos) (tOp r ta tb) := by
  intro pins s σ H Q I h
  exact wpAny_BinOp (binT ha hb I h fun v u s2 x y H2 I2 rx ry q => ho pins s2 σ H2 x y v u Q I2 rx ry q)
theorem pe_un {op : UnaryOp} {r : V → Hp → VK → Prop} (ho : UnR X (unaryOp op) r) (ha : PE X a ta) : PE X (.UnaryOp op a pos) (tUn r ta) := by
  intro pins s σ H Q I h
  exact UnaryOp_ (thn (ha pins s σ H _ I h) fun v s1 ⟨x, H1, I1, r1, q1⟩ => ho pins s1 σ H1 x v Q I1 r1 q1)
/-! ### ints -/
theorem opI {f : Value → Value → Sem Value} {C : Int → Int → Prop} {g : Int → Int → Int}
    (rule : ∀ (i j : Int) (t u : Tok) (s : Shared) (Q : Value → Shared → Prop) (E : Value → Shared → Prop), C i j → Q (.int (g i j) s.toks) { s with toks := s.toks + 1 } → wpAny (model X.prog X.w) X.A (f (.int i t) (.int j u)) Q E s) :
    OpR X f (rI C fun i j => .int (g i j)) := by
  intro pins s σ H x y v u Q I rx ry h
  obtain ⟨i, j, rfl, rfl, hc, q⟩ := h
  obtain ⟨t, rfl⟩ := rx
  obtain ⟨t', rfl⟩ := ry
  exact rule i j t t' s _ _ hc ⟨.int (g i j), H, I.tok _, ⟨_, rfl⟩, q⟩
theorem opI0 {f : Value → Value → Sem Value} {g : Int → Int → Int}
    (rule : ∀ (i j : Int) (t u : Tok) (s : Shared) (Q : Value → Shared → Prop) (E : Value → Shared → Prop), Q (.int (g i j) s.toks) { s with toks := s.toks + 1 } → wpAny (model X.prog X.w) X.A (f (.int i t) (.int j u)) Q E s) :
    OpR X f (rI0 fun i j => .int (g i j)) := by
  intro pins s σ H x y v u Q I rx ry h
  obtain ⟨i, j, rfl, rfl, q⟩ := h
  obtain ⟨t, rfl⟩ := rx
  obtain ⟨t', rfl⟩ := ry
  exact rule i j t t' s _ _ ⟨.int (g i j), H, I.tok _, ⟨_, rfl⟩, q⟩
theorem opB0 {f : Value → Value → Sem Value} {g : Int → Int → Bool}
    (rule : ∀ (i j : Int) (t u : Tok) (s : Shared) (Q : Value → Shared → Prop) (E : Value → Shared → Prop), Q (.bool (g i j)) s → wpAny (model X.prog X.w) X.A (f (.int i t) (.int j u)) Q E s) :
    OpR X f (rI0 fun i j => .bl (g i j)) := by
  intro pins s σ H x y v u Q I rx ry h
  obtain ⟨i, j, rfl, rfl, q⟩ := h
  obtain ⟨t, rfl⟩ := rx
  obtain ⟨t', rfl⟩ := ry
  exact rule i j t t' s _ _ ⟨.bl (g i j), H, I, rfl, q⟩

def CDiv (i j : Int) : Prop := 0 < j ∧ j < 1073741824
def CPow (i j : Int) : Prop := 0 ≤ j ∧ j ≤ 1000000 ∧ i.natAbs < 2 ^ 64
def CMul (i j : Int) : Prop := (-(2 ^ 64) < i ∧ i < 2 ^ 64) ∨ (-(2 ^ 64) < j ∧ j < 2 ^ 64)
theorem CMul.ok {i j : Int} (h : CMul i j) : IntMulOk i j := by
  rcases h with ⟨h1, h2⟩ | ⟨h1, h2⟩
  · exact .of_left (intBits_le_64 h1 h2)
  · exact .of_right (intBits_le_64 h1 h2)
theorem op_add : OpR X (binaryOp .Add) (rI0 fun i j => .int (i + j)) := opI0 fun _ _ _ _ _ _ _ q => add_int q
theorem op_sub : OpR X (binaryOp .Sub) (rI0 fun i j => .int (i - j)) := opI0 fun _ _ _ _ _ _ _ q => sub_int q
theorem op_mul : OpR X (binaryOp .Mult) (rI CMul fun i j => .int (i * j)) := opI fun _ _ _ _ _ _ _ hc q => mul_int q hc.ok
/-- // by a positive divisor -/
theorem op_fdiv : OpR X (binaryOp .FloorDiv) (rI CDiv fun i j => .int (i / j)) := opI fun i j _ _ _ _ _ hc q => by
  have h1 : (0 : Int) < j := hc.1
  have h2 : j < 1073741824 := hc.2
  exact floordiv_int (by omega) (by rw [Int.fdiv_eq_ediv_of_nonneg i (by omega)]; exact q) (.inl (PyProof.noPylong_small (by omega)))
/-- % by a positive divisor of any size -/
theorem op_mod : OpR X (binaryOp .Mod) (rI (fun _ j => 0 < j) fun i j => .int (i % j)) := opI fun i j _ _ _ _ _ hc q => by
  have h1 : (0 : Int) < j := hc
  exact mod_int' (by omega) (by rw [Int.fmod_eq_emod_of_nonneg i (by omega)]; exact q)
theorem op_pow : OpR X (binaryOp .Pow) (rI CPow fun i j => .int (i ^ j.toNat)) := opI fun _ _ _ _ _ _ _ hc q => pow_int_small hc.1 hc.2.1 hc.2.2 q
theorem unI {f : Value → Sem Value} {g : Int → Int}
    (rule : ∀ (i : Int) (t : Tok) (s : Shared) (Q : Value → Shared → Prop) (E : Value → Shared → Prop), Q (.int (g i) s.toks) { s with toks := s.toks + 1 } → wpAny (model X.prog X.w) X.A (f (.int i t)) Q E s) :
    UnR X f (rU fun i => .int (g i)) := by
  intro pins s σ H x v Q I rx h
  obtain ⟨i, rfl, q⟩ := h
  obtain ⟨t, rfl⟩ := rx
  exact rule i t s _ _ ⟨.int (g i), H, I.tok _, ⟨_, rfl⟩, q⟩
theorem un_neg : UnR X (unaryOp .USub) (rU fun i => .int (-i)) := unI fun _ _ _ _ _ q => neg_int q
/-! ### bools among ints: n += (a < b) -/
end

/-! ### comparisons -/
/-- the scalars that == tells apart as data does -/
def scal : V → V → Bool
  | .non, .non => true | .non, .int _ => true | .int _, .non => true | .non, .bl _ => true | .bl _, .non => true | .non, .str _ => true | .str _, .non => true
  | .int _, .int _ => true | .bl _, .bl _ => true | .str _, .str _ => true | .byt _, .byt _ => true
  | .int _, .str _ => true | .str _, .int _ => true | .bl _, .str _ => true | .str _, .bl _ => true
  | _, _ => false
def rEq : R2 := fun x y H Q => scal x y = true ∧ Q (.bl (decide (x = y))) H
def rNe : R2 := fun x y H Q => scal x y = true ∧ Q (.bl (!decide (x = y))) H

theorem dec_int {i j : Int} : decide (V.int i = V.int j) = (i == j) := by
  rw [Bool.eq_iff_iff]
  simp
theorem dec_bl {i j : Bool} : decide (V.bl i = V.bl j) = (i == j) := by
  rw [Bool.eq_iff_iff]
  simp
theorem dec_str {i j : Str} : decide (V.str i = V.str j) = (i == j) := by
  rw [Bool.eq_iff_iff]
  simp
theorem dec_byt {i j : Array UInt8} : decide (V.byt i = V.byt j) = (i.toList == j.toList) := by
  rw [Bool.eq_iff_iff]
  cases i
  cases j
  simp

section
variable {X : Cx} {a b c : Expr} {ta tb tc : TE} {pos : Pos}
theorem fin_bl {pins : List (Addr × Obj)} {σ : St} {H : Hp} {s : Shared} {Q : VK} {k k' : Bool} (I : Inv X pins σ H s) (q : Q (.bl k) H) (e : k = k') : EP X pins σ Q (.bool k') s := by
  subst e
  exact ⟨.bl k, H, I, rfl, q⟩
theorem op_eq : OpR X (compareOp .Eq) rEq := by
  intro pins s σ H x y v u Q I rx ry h
  obtain ⟨hs, q⟩ := h
  cases x with
  | non =>
    cases rx
    cases y with
    | non => cases ry; exact PySem.EqNone.eq_none_none (fin_bl I q (by simp))
    | bl j => cases ry; exact PySem.EqNone.eq_none_bool (fin_bl I q (by simp))
    | int j => obtain ⟨t', rfl⟩ := ry; exact PySem.EqNone.eq_none_int (fin_bl I q (by simp))
    | str j => obtain ⟨t', rfl⟩ := ry; exact PySem.EqNone.eq_none_str (fin_bl I q (by simp))
    | _ => exact absurd (show false = true from hs) Bool.false_ne_true
  | bl i =>
    cases rx
    cases y with
    | non => cases ry; exact PySem.EqNone.eq_bool_none (fin_bl I q (by simp))
    | bl j => cases ry; exact eq_bool (fin_bl I q dec_bl)
    | str j => obtain ⟨t', rfl⟩ := ry; exact PySem.EqMixed.eq_bool_str (fin_bl I q (by simp))
    | _ => exact absurd (show false = true from hs) Bool.false_ne_true
  | int i =>
    obtain ⟨t, rfl⟩ := rx
    cases y with
    | non => cases ry; exact PySem.EqNone.eq_int_none (fin_bl I q (by simp))
    | int j => obtain ⟨t', rfl⟩ := ry; exact eq_int (fin_bl I q dec_int)
    | str j => obtain ⟨t', rfl⟩ := ry; exact PySem.EqMixed.eq_int_str (fin_bl I q (by simp))
    | _ => exact absurd (show false = true from hs) Bool.false_ne_true
  | str i =>
    obtain ⟨t, rfl⟩ := rx
    cases y with
    | non => cases ry; exact PySem.EqNone.eq_str_none (fin_bl I q (by simp))
    | bl j => cases ry; exact PySem.EqMixed.eq_str_bool (fin_bl I q (by simp))
    | int j => obtain ⟨t', rfl⟩ := ry; exact PySem.EqMixed.eq_str_int (fin_bl I q (by simp))
    | str j => obtain ⟨t', rfl⟩ := ry; exact eq_str (fin_bl I q dec_str)
    | _ => exact absurd (show false = true from hs) Bool.false_ne_true
  | byt i =>
    obtain ⟨t, rfl⟩ := rx
    cases y with
    | byt j => obtain ⟨t', rfl⟩ := ry; exact PySem.W.eq_bytes (fin_bl I q dec_byt)
    | _ => exact absurd (show false = true from hs) Bool.false_ne_true
  | _ => cases y <;> exact absurd (show false = true from hs) Bool.false_ne_true
theorem op_ne : OpR X (compareOp .NotEq) rNe := by
  intro pins s σ H x y v u Q I rx ry h
  obtain ⟨hs, q⟩ := h
  cases x with
  | non =>
    cases rx
    cases y with
    | non => cases ry; exact PySem.EqNone.ne_none_none (fin_bl I q (by simp))
    | bl j => cases ry; exact PySem.EqNone.ne_none_bool (fin_bl I q (by simp))
    | int j => obtain ⟨t', rfl⟩ := ry; exact PySem.EqNone.ne_none_int (fin_bl I q (by simp))
    | str j => obtain ⟨t', rfl⟩ := ry; exact PySem.EqNone.ne_none_str (fin_bl I q (by simp))
    | _ => exact absurd (show false = true from hs) Bool.false_ne_true
  | bl i =>
    cases rx
    cases y with
    | non => cases ry; exact PySem.EqNone.ne_bool_none (fin_bl I q (by simp))
    | bl j => cases ry; exact ne_bool (fin_bl I q (congrArg not dec_bl))
    | str j => obtain ⟨t', rfl⟩ := ry; exact PySem.EqMixed.ne_bool_str (fin_bl I q (by simp))
    | _ => exact absurd (show false = true from hs) Bool.false_ne_true
  | int i =>
    obtain ⟨t, rfl⟩ := rx
    cases y with
    | non => cases ry; exact PySem.EqNone.ne_int_none (fin_bl I q (by simp))
    | int j => obtain ⟨t', rfl⟩ := ry; exact ne_int (fin_bl I q (congrArg not dec_int))
    | str j => obtain ⟨t', rfl⟩ := ry; exact PySem.EqMixed.ne_int_str (fin_bl I q (by simp))
    | _ => exact absurd (show false = true from hs) Bool.false_ne_true
  | str i =>
    obtain ⟨t, rfl⟩ := rx
    cases y with
    | non => cases ry; exact PySem.EqNone.ne_str_none (fin_bl I q (by simp))
    | bl j => cases ry; exact PySem.EqMixed.ne_str_bool (fin_bl I q (by simp))
    | int j => obtain ⟨t', rfl⟩ := ry; exact PySem.EqMixed.ne_str_int (fin_bl I q (by simp))
    | str j => obtain ⟨t', rfl⟩ := ry; exact ne_str (fin_bl I q (congrArg not dec_str))
    | _ => exact absurd (show false = true from hs) Bool.false_ne_true
  | byt i =>
    obtain ⟨t, rfl⟩ := rx
    cases y with
    | byt j => obtain ⟨t', rfl⟩ := ry; exact PySem.W.ne_bytes (fin_bl I q (congrArg not dec_byt))
    | _ => exact absurd (show false = true from hs) Bool.false_ne_true
  | _ => cases y <;> exact absurd (show false = true from hs) Bool.false_ne_true

theorem op_lt : OpR X (compareOp .Lt) (rI0 fun i j => .bl (decide (i < j))) := opB0 fun _ _ _ _ _ _ _ q => lt_int q
theorem op_gt : OpR X (compareOp .Gt) (rI0 fun i j => .bl (decide (j < i))) := opB0 fun _ _ _ _ _ _ _ q => gt_int q
theorem op_ge : OpR X (compareOp .GtE) (rI0 fun i j => .bl (decide (j ≤ i))) := opB0 fun _ _ _ _ _ _ _ q => ge_int q
theorem nomark (b : Expr) {op : CmpOp} (h : op ≠ .In := by decide) (h2 : op ≠ .NotIn := by decide) : behindInMarks op b = false := by
  have e1 : (op == CmpOp.In) = false := by cases op <;> first | rfl | exact absurd rfl h
  have e2 : (op == CmpOp.NotIn) = false := by cases op <;> first | rfl | exact absurd rfl h2
  cases b <;> simp [behindInMarks, e1, e2]
/-- a comparison as a value; hm: nomark b, or (for in, not in) by with_unfolding_all rfl -/
theorem pe_cmpR {op : CmpOp} {r : R2} (ho : OpR X (compareOp op) r) (ha : PE X a ta) (hb : PE X b tb) (hm : behindInMarks op b = false) : PE X (.Compare a [op] [b] pos) (tOp r ta tb) := by
  intro pins s σ H Q I h
  exact wpAny_Compare1 (binT ha hb I h fun v u s2 x y H2 I2 rx ry q => ho pins s2 σ H2 x y v u Q I2 rx ry q) hm
/-- a reading of a value as a test -/
def tTest (t : TE) : TT := fun σ H Q => t σ H fun x H' => ∃ k, x = .bl k ∧ Q k H'
theorem pt_cmpR {op : CmpOp} {r : R2} (ho : OpR X (compareOp op) r) (ha : PE X a ta) (hb : PE X b tb) (hm : behindInMarks op b = false) : PT X (.Compare a [op] [b] pos) (tTest (tOp r ta tb)) := by
  intro pins s σ H Q I h
  refine wpAny_isTrue_Compare1 (thn (ha pins s σ H _ I h) fun v s1 ⟨x, H1, I1, r1, q1⟩ => thn (hb pins s1 σ H1 _ I1 q1) fun u s2 ⟨y, H2, I2, r2, q2⟩ =>
    thn (ho pins s2 σ H2 x y v u _ I2 r1 r2 q2) fun c s3 ⟨z, H3, I3, r3, k, e, q3⟩ => ?_) hm
  subst e
  cases r3
  exact wpAny_truthy_bool ⟨H3, I3, q3⟩
/-! ### truth -/
theorem line63 : (sizeLine : Nat) < 2 ^ 63 := by rw [sizeLine_eq]; decide
/-! ### strs and bytes -/
/-! ### scalar builtins, by CallR -/
theorem vals1 {x : V} {us : List Value} (r : Vals [x] us) : ∃ u, us = [u] ∧ RelV x u := by
  cases r with
  | cons r1 r2 => cases r2; exact ⟨_, rfl, r1⟩
theorem vals2 {x y : V} {us : List Value} (r : Vals [x, y] us) : ∃ u w', us = [u, w'] ∧ RelV x u ∧ RelV y w' := by
  cases r with
  | cons r1 r2 =>
    cases r2 with
    | cons r3 r4 => cases r4; exact ⟨_, _, rfl, r1, r3⟩
theorem call_abs : CallR X (.builtin "abs") (fun xs H Q => ∃ i, xs = [.int i] ∧ Q (.int (if i < 0 then -i else i)) H) := by
  intro pins s σ H xs us Q I r h
  obtain ⟨i, rfl, q⟩ := h
  obtain ⟨u, rfl, t, rfl⟩ := vals1 r
  exact call_abs_int fun u tk => ⟨.int (if i < 0 then -i else i), H, I.tok _, ⟨_, rfl⟩, q⟩
theorem call_max2 (hc : X.calm = true) : CallR X (.builtin "max") (fun xs H Q => ∃ i j, xs = [.int i, .int j] ∧ Q (.int (if j > i then j else i)) H) := by
  intro pins s σ H xs us Q I r h
  obtain ⟨i, j, rfl, q⟩ := h
  obtain ⟨u, w', rfl, ⟨t, rfl⟩, ⟨t', rfl⟩⟩ := vals2 r
  refine max_two_ints (I.ok.hd hc) fun h' tk k => ⟨_, H, I.kept k, ?_, q⟩
  by_cases hj : j > i
  · rw [if_pos hj, if_pos hj]; exact ⟨_, rfl⟩
  · rw [if_neg hj, if_neg hj]; exact ⟨_, rfl⟩
theorem call_min2 (hc : X.calm = true) : CallR X (.builtin "min") (fun xs H Q => ∃ i j, xs = [.int i, .int j] ∧ Q (.int (if j < i then j else i)) H) := by
  intro pins s σ H xs us Q I r h
  obtain ⟨i, j, rfl, q⟩ := h
  obtain ⟨u, w', rfl, ⟨t, rfl⟩, ⟨t', rfl⟩⟩ := vals2 r
  refine min_two_ints (I.ok.hd hc) fun h' tk k => ⟨_, H, I.kept k, ?_, q⟩
  by_cases hj : j < i
  · rw [if_pos hj, if_pos hj]; exact ⟨_, rfl⟩
  · rw [if_neg hj, if_neg hj]; exact ⟨_, rfl⟩
/-- divmod: a new tuple -/
theorem call_divmod : CallR X (.builtin "divmod") (fun xs H Q => ∃ i j, xs = [.int i, .int j] ∧ CDiv i j ∧ ∀ p, H p = none → Q (.ref p) (upd H p (.tup [.int (i / j), .int (i % j)]))) := by
  intro pins s σ H xs us Q I r h
  obtain ⟨i, j, rfl, ⟨h1, h2⟩, q⟩ := h
  obtain ⟨u, w', rfl, ⟨t, rfl⟩, ⟨t', rfl⟩⟩ := vals2 r
  refine divmod_int (by omega) ?_ (.inl (PyProof.noPylong_small (by omega)))
  rw [Int.fdiv_eq_ediv_of_nonneg i (by omega), Int.fmod_eq_emod_of_nonneg i (by omega)]
  have hn : H s.heap.objs.size = none := I.hok.fresh (Nat.le_refl _)
  refine ⟨.ref s.heap.objs.size, _, ?_, rfl, q _ hn⟩
  refine I.laid (fun b o e => Heap.get?_push_of_some _ e) (Nat.le_refl _) ⟨by simp only [List.length_cons, List.length_nil]; rw [sizeLine_eq]; decide, [.int (i / j) s.toks, .int (i % j) (s.toks + 1)], .cons ⟨_, rfl⟩ (.cons ⟨_, rfl⟩ .nil), ?_⟩
  exact ⟨_, Heap.get?_push_size s.heap rfl, rfl, 0, rfl⟩
end
end L2

namespace L2
open PySem PySem.Spec PyProof.Rows

/-! ### an instance, its attributes a map -/
structure ObjM (h : Heap) (x dx C : Addr) (mA : Str → Option Value) : Prop where
  obj : h.get? x = some (PySem.W.instObj C dx)
  ns : h.Ns1 dx mA
  ne : dx ≠ x

section
variable {prog : Program} {w : World} {A : Around} {E : Value → Shared → Prop} {s : Shared} {K : PySem.W.Frag} {x dx C f : Addr} {mA : Str → Option Value} {name : Str} {v : Value}

end

/-! ### the attributes as a list of pairs -/
theorem RelO.some_of {v : V} {o : Option Value} (r : RelO (some v) o) : ∃ u, o = some u ∧ RelV v u := by
  cases o with
  | none => exact (show False from r).elim
  | some u => exact ⟨u, rfl, r⟩
section
variable {P : Program} {w : World} {H H' : Hp} {h h' : Heap} {a C dx : Addr} {fs fs' : List (Str × V)}
end

/-! ### what of the text a class must have -/
structure Cls (K : PySem.W.Frag) (C : Addr) : Prop where
  pg : PySem.W.plainGet K C Str.empty = true
  hd : PySem.W.hasDictIn K C = true
  po : PySem.W.plainOver K C = true
  sa : PySem.W.findIn K (.ref C) "__setattr__" = some (some (.builtin "object.__setattr__"))
/-- a constant of the class -/
structure Con (K : PySem.W.Frag) (C : Addr) (f : Str) (v : V) (u : Value) : Prop where
  at_ : PySem.W.findIn K (.ref C) f = some (some u)
  rel : RelV v u
  get : PySem.W.specialIn K u "__get__" = some none
  cp : PySem.W.copiedNames.contains f = false
/-- a method: a plain def of the class or of one above it -/
structure Meth (K : PySem.W.Frag) (C : Addr) (m : Str) (f : Addr) : Prop where
  at_ : PySem.W.findIn K (.ref C) m = some (some (.ref f))
  fn : PySem.W.isFn K (.ref f) = true
  kp : PySem.W.keepIn K (.ref f) = true

section
variable {X : Cx} {pins : List (Addr × Obj)} {σ : St} {H : Hp} {s : Shared} {a C dx : Addr} {fs : List (Str × V)} {f : Str} {v : V} {A : Around} {E : Value → Shared → Prop}

end

/-! ### readings and rules -/
section
variable {X : Cx} {o e value : Expr} {f : Str} {pos pos' tpos : Pos} {ta tv : TE}
end

/-! ### isinstance -/
section
variable {X : Cx} {pins : List (Addr × Obj)} {σ : St} {H : Hp} {s : Shared} {A : Around} {E : Value → Shared → Prop} {Q : Value → Shared → Prop} {c : Value} {b : Bool}
/-- the type of a value, as the fragment's deciders take it; for an instance its class -/
inductive TyOf (K : PySem.W.Frag) (H : Hp) : V → Value → Prop where
  | non : TyOf K H .non (.type "NoneType")
  | bl (x : Bool) : TyOf K H (.bl x) (.type "bool")
  | int (i : Int) : TyOf K H (.int i) (.type "int")
  | str (x : Str) : TyOf K H (.str x) (.type "str")
  | flt (x : UInt64) : TyOf K H (.flt x) (.type "float")
  | lst {a : Addr} {xs : List V} (e : H a = some (.lst xs)) : TyOf K H (.ref a) (.type "list")
  | frz {a : Addr} {o : Obj} {xs : List V} (e : H a = some (.frz o (.lst xs))) : TyOf K H (.ref a) (.type "list")
  | tup {a : Addr} {xs : List V} (e : H a = some (.tup xs)) : TyOf K H (.ref a) (.type "tuple")
  | dK {a : Addr} {kvs : List (Key × V)} (e : H a = some (.dK kvs)) : TyOf K H (.ref a) (.type "dict")
  | dT {a : Addr} {kvs : List (List Key × V)} (e : H a = some (.dT kvs)) : TyOf K H (.ref a) (.type "dict")
  | ins {a C dx : Addr} {fs : List (Str × V)} (e : H a = some (.ins C dx fs)) (cl : Cls K C) (ha : PySem.W.findIn K (.ref C) "__class__" = some (some (.builtin "object.__class__")))
      (hn : PySem.W.specialIn K (.builtin "object.__class__") "__get__" = some (some (.builtin "getset_descriptor.__get__"))) (htk : PySem.W.takesIn K (.builtin "object.__class__") = some true)
      (hm : PySem.W.mroIn K C (.type "object") = some true) : TyOf K H (.ref a) (.ref C)
end
end L2

namespace L2
open PySem PySem.Spec PyProof.Rows

/-! ### room -/
structure Room (k : Nat) (A : Around) : Prop where
  hd : A.handled = none
  dp : A.depth + 3 * k + 5 < recursionLimit
  un : A.units + 16 * k + 200 < cLine
  gs : A.guards = some []
theorem Room.mono {j k : Nat} {A : Around} (r : Room k A) (h : j ≤ k) : Room j A := ⟨r.hd, by have := r.dp; omega, by have := r.un; omega, r.gs⟩
theorem Room.deeper {k : Nat} {A : Around} (r : Room (k + 1) A) (env : Env) : Room k (A.deeper env) :=
  ⟨r.hd, by have := r.dp; show A.depth + 1 + 3 * k + 5 < _; omega, by have := r.un; show A.units + 3 + 16 * k + 200 < _; omega, r.gs⟩
theorem Room.depth {k : Nat} {A : Around} (r : Room k A) : A.depth < recursionLimit := by have := r.dp; omega
theorem Room.units {k : Nat} {A : Around} (r : Room k A) : A.units + 64 < cLine := by have := r.un; omega
/-! ### argument lists and displays -/
def tNil : TA := fun _ H Q => Q [] H
def tCons (ta : TE) (tr : TA) : TA := fun σ H Q => ta σ H fun x H1 => tr σ H1 fun xs H2 => Q (x :: xs) H2
section
variable {X : Cx} {e : Expr} {es : List Expr} {te : TE} {t : TA} {pos : Pos}
theorem pa_nil : PA X [] tNil := fun _ _ _ _ H Q I h => Calls.spliced_nil ⟨[], H, I, .nil, h⟩
theorem pa_cons (ha : PE X e te) (hr : PA X es t) (hs : starEach (e :: es) X.env = (false, eval e X.env) :: starEach es X.env := by rfl) : PA X (e :: es) (tCons te t) := by
  intro pos pins s σ H Q I h
  rw [hs]
  show wpAny _ _ (spliced ((false, eval e X.env) :: backTo pos (starEach es X.env))) _ _ s
  refine Calls.spliced_cons (thn (ha pins s σ H _ I h) fun u s1 ⟨x, H1, I1, r1, q1⟩ => ?_)
  exact thn (hr pos pins s1 σ H1 _ I1 q1) fun us s2 ⟨xs, H2, I2, r2, q2⟩ => ⟨x :: xs, H2, I2, .cons r1 r2, q2⟩

def tLst (t : TA) : TE := fun σ H Q => t σ H fun xs H1 => xs.length ≤ sizeLine ∧ ∀ p, H1 p = none → Q (.ref p) (upd H1 p (.lst xs))
theorem pe_lst (h : PA X es t) : PE X (.List es pos) (tLst t) := by
  intro pins s σ H Q I hq
  refine wpAny_List_spliced (thn (h pos pins s σ H _ I hq) fun us s1 ⟨xs, H1, I1, r, z, q⟩ => ⟨by rw [← r.length]; exact z, ?_⟩)
  have hf : H1 s1.heap.objs.size = none := I1.hok.fresh (Nat.le_refl _)
  refine ⟨.ref s1.heap.objs.size, upd H1 s1.heap.objs.size (.lst xs), I1.laid (t' := s1.toks) (fun b u e => Heap.get?_push_of_some _ e) (Nat.le_refl _) ?_, rfl, q _ hf⟩
  exact ⟨z, us, 0, r, Heap.get?_push_size _ rfl⟩
end

/-! ### what a def promises -/
/-- a def's promise: the bound arguments in the parameters' order, the heap, the wanted end, the wanted exception -/
abbrev Sp := List V → Hp → VK → XK → Prop
/-- how an exception lies behind a call (file 08 gives it): the callers' frames, abstract heap and state ahead of the call, the wish, the exception, the state -/
abbrev CXT := List Env → Hp → Shared → XK → Value → Shared → Prop

/-- the state at a call -/
structure Env0 (P : Program) (w : World) (K : PySem.W.Frag) (mg : Str → Option Value) (base : Heap) (A : Around) (outer : List Env) (s : Shared) (H : Hp) : Prop where
  frames : A.frames = some outer
  mod : Mod K mg base
  bs : ∀ b o, base.get? b = some o → s.heap.get? b = some o ∧ H b = none
  bsz : base.objs.size ≤ s.heap.objs.size
  funs : s.heap.FunFrames base outer
  frf : ∀ b ∈ frs outer, H b = none
  hok : HOk P w H s.heap
  bare : AllBare s.gens
/-- a call's end -/
def CE (outer : List Env) (P : Program) (w : World) (H : Hp) (s : Shared) (Q : VK) (u : Value) (s' : Shared) : Prop :=
  ∃ v H', s'.os = s.os ∧ AllBare s'.gens ∧ Un (frs outer) [] H H' s.heap s'.heap ∧ HOk P w H' s'.heap ∧ RelV v u ∧ Q v H'
def CR (CX : CXT) (outer : List Env) (P : Program) (w : World) (H : Hp) (s : Shared) (Q : VK) (E : XK) (r : Result) (s' : Shared) : Prop :=
  match r with
  | .ok (.ret u) => CE outer P w H s Q u s'
  | .ok _ => False
  | .error e => CX outer H s E e s'
structure FnOk (P : Program) (w : World) (K : PySem.W.Frag) (mg : Str → Option Value) (base : Heap) (CX : CXT) (k : Nat) (f : Addr) (fd : FuncData) (ps : List Str) (sp : Sp) : Prop where
  len : ∀ vs H Q E, sp vs H Q E → vs.length = ps.length
  run : ∀ (A : Around) (outer : List Env) (s : Shared) (H : Hp) (args : Args) (us : List Value) (vs : List V) (Q : VK) (E : XK), Room k A → Env0 P w K mg base A outer s H → BindsTo s fd args (ps.zip us) → Vals vs us → sp vs H Q E →
    codeAny (model P w) A (.call (.ref f) args) (CR CX outer P w H s Q E) s
section
variable {X : Cx} {pins : List (Addr × Obj)} {σ : St} {H : Hp} {s s' : Shared}
/-- from a body: what a callee wants -/
theorem Inv.env0 (I : Inv X pins σ H s) : Env0 X.prog X.w X.K X.mg X.base X.A X.stack s H :=
  ⟨I.ok.frames, I.ok.mod, I.bs, Nat.le_trans I.ok.bsz I.sz, I.stack, I.stkFree, I.hok, I.bare⟩
/-- behind a call -/
theorem Inv.after {Q : VK} {u : Value} (I : Inv X pins σ H s) (h : CE X.stack X.prog X.w H s Q u s') : EP X pins σ Q u s' := by
  obtain ⟨v, H', os, bare, un, hok, r, q⟩ := h
  obtain ⟨hh, g, d, t, os'⟩ := s'
  obtain rfl : os' = s.os := os
  exact ⟨v, H', I.call (h' := hh) (g' := g) (d' := d) (t' := t) (ch := []) un hok bare (fun b z => absurd z (by simp)), r, q⟩
end

/-! ### calls -/
/-- f(..): the written arguments, then the defaults dvs; E: what is wanted of an exception -/
def tCall (sp : Sp) (dvs : List V) (E : XK) (t : TA) : TE := fun σ H Q => t σ H fun vs H1 => sp (vs ++ dvs) H1 Q E
/-- how the parameters are bound: us the positional arguments, kw the keywords' values by name, ds the defaults that fill up -/
def Binds (K : PySem.W.Frag) (fd : FuncData) (ps : List Str) (ds : List Value) : Prop :=
  ∀ (s : Shared) (us : List Value), K.In s.heap → (us ++ ds).length = ps.length → BindsTo s fd ⟨us, []⟩ (ps.zip (us ++ ds))
/-- every parameter is given -/
theorem Binds.all {K : PySem.W.Frag} {fd : FuncData} {ps : List Str} (h : ∀ us : List Value, us.length = ps.length → bindArgs fd ⟨us, []⟩ = pure (ps.zip us)) : Binds K fd ps [] := fun s us _ hl => by
  rw [List.append_nil] at hl ⊢
  exact .of_eq (h us hl)

/-- an exception of a callee reaches what this body wants of exceptions -/
def Passes (CX : CXT) (X : Cx) (E : XK) : Prop := ∀ (pins : List (Addr × Obj)) (σ : St) (H : Hp) (s : Shared) (e : Value) (s' : Shared), Inv X pins σ H s → CX X.stack H s E e s' → X.xe e s'

section
variable {X : Cx} {CX : CXT} {k : Nat} {f C : Addr} {fd : FuncData} {ps : List Str} {sp : Sp} {dvs : List V} {ds : List Value} {E : XK} {x m : Str} {p pos apos : Pos} {e o : Expr} {es : List Expr} {ta : TE} {t : TA}

/-- the callee runs -/
theorem run_fn {pins : List (Addr × Obj)} {σ : St} {H : Hp} {s : Shared} {Q : VK} {us : List Value} {vs : List V} (F : FnOk X.prog X.w X.K X.mg X.base CX k f fd ps sp) (hr : Room k X.A) (hb : Binds X.K fd ps ds) (hd : Vals dvs ds) (hx : Passes CX X E)
    (I : Inv X pins σ H s) (r : Vals vs us) (h : sp (vs ++ dvs) H Q E) : wpAny (model X.prog X.w) X.A (call (.ref f) us) (EP X pins σ Q) X.xe s := by
  have r2 : Vals (vs ++ dvs) (us ++ ds) := r.append hd
  have hl : (us ++ ds).length = ps.length := by rw [← r2.length]; exact F.len _ _ _ _ h
  refine wpAny_call (codeAny_mono (F.run X.A X.stack s H ⟨us, []⟩ (us ++ ds) (vs ++ dvs) Q E hr I.env0 (hb s us I.kIn hl) r2 h) fun r s' hq => ?_)
  cases r with
  | error e => exact hx pins σ H s e s' I hq
  | ok fl =>
    cases fl with
    | ret u => exact I.after hq
    | next => exact False.elim hq
    | brk => exact False.elim hq
    | cont => exact False.elim hq

theorem pe_call (F : FnOk X.prog X.w X.K X.mg X.base CX k f fd ps sp) (hr : Room k X.A) (hg : Gl X x) (hm : X.mg x = some (.ref f)) (hk : PySem.W.keepIn X.K (.ref f) = true) (hb : Binds X.K fd ps ds) (hd : Vals dvs ds) (hx : Passes CX X E)
    (ha : PA X (e :: es) t) (hdb : (x == ("__debug__" : Str)) = false := by decide) (he : starEach (e :: es) X.env = (false, eval e X.env) :: starEach es X.env := by rfl) (hpl : (backTo pos (starEach es X.env)).any (·.1) = false := by rfl) :
    PE X (.Call (.Name x p) (e :: es) [] pos) (tCall sp dvs E t) := by
  intro pins s σ H Q I h
  refine wpAny_Call_Name_kw (ld_glob I hg hm ?_ hdb)
  refine PySem.W.callWith_K (h₀ := X.base) I.ok.mod.kin hk (thn (ha pos pins s σ H _ I h) fun us s1 ⟨vs, H1, I1, r, q⟩ => ⟨I1.kIn, ?_⟩) he hpl
  exact run_fn F hr hb hd hx I1 r q
theorem pe_call0 (F : FnOk X.prog X.w X.K X.mg X.base CX k f fd ps sp) (hr : Room k X.A) (hg : Gl X x) (hm : X.mg x = some (.ref f)) (hk : PySem.W.keepIn X.K (.ref f) = true) (hb : Binds X.K fd ps ds) (hd : Vals dvs ds) (hx : Passes CX X E)
    (hdb : (x == ("__debug__" : Str)) = false := by decide) : PE X (.Call (.Name x p) [] [] pos) (tCall sp dvs E tNil) := by
  intro pins s σ H Q I h
  refine wpAny_Call_Name_kw (ld_glob I hg hm ?_ hdb)
  exact PySem.W.callWith_K0 I.kIn hk (run_fn (us := []) F hr hb hd hx I .nil h)

/-- what a class must have to be made -/
structure Mk (K : PySem.W.Frag) (C f : Addr) : Prop where
  makes : PySem.W.makesIn K C = true
  init : PySem.W.findIn K (.ref C) "__init__" = some (some (.ref f))
  fn : PySem.W.isFn K (.ref f) = true
  kp : PySem.W.keepIn K (.ref C) = true

end

/-! ### keywords -/
section
variable {X : Cx} {CX : CXT} {k : Nat} {f C : Addr} {fd : FuncData} {ps ks : List Str} {sp : Sp} {E : XK} {x m : Str} {p pos apos kpos : Pos} {e o : Expr} {es : List Expr} {kws : List Keyword} {te ta : TE} {t tk : TA} {nm : Option Str}
/-- how a call with keywords binds: g puts the positional values us and the keywords' values ws (names ks) in the parameters' order, defaults among them -/
structure KBinds (K : PySem.W.Frag) (fd : FuncData) (ps ks : List Str) (g : List Value → List Value → List Value) (gV : List V → List V → List V) : Prop where
  to : ∀ (s : Shared) (us ws : List Value), K.In s.heap → (g us ws).length = ps.length → BindsTo s fd ⟨us, ks.zip ws⟩ (ps.zip (g us ws))
  rel : ∀ {vs : List V} {us : List Value} {zs : List V} {ws : List Value}, Vals vs us → Vals zs ws → Vals (gV vs zs) (g us ws)
variable {g : List Value → List Value → List Value} {gV : List V → List V → List V}
end

/-! ### a def's body keeps its promise -/
/-- names: the parameters first -/
structure FnScope (N P : List Str) (sc : Scope) : Prop where
  kind : sc.kind = .function
  co : sc.isCoroutine = false
  gen : sc.isGenerator = false
  nd : N.Nodup
  pre : N.take P.length = P
  par : ∀ x ∈ P, sc.names.lookup x = some .local ∨ sc.names.lookup x = some .cell
  nofree : ∀ y ∈ sc.names, y.2 ≠ .free

theorem bindL_out {kindOf : Str → Option NameKind} {x : Str} : ∀ {binds : List (Str × Value)} {m : Str → Option Value}, (∀ v, (x, v) ∉ binds) → bindL kindOf binds m x = m x
  | [], _, _ => rfl
  | (n, v) :: r, m, h => by
    unfold bindL
    rw [bindL_out fun w hw => h w (List.mem_cons_of_mem _ hw)]
    split
    · have : x ≠ n := by rintro rfl; exact h v List.mem_cons_self
      simp [this]
    · rfl
theorem bindC_out {kindOf : Str → Option NameKind} {x : Str} : ∀ {binds : List (Str × Value)} {m : Str → Option Value}, (∀ v, (x, v) ∉ binds) → bindC kindOf binds m x = m x
  | [], _, _ => rfl
  | (n, v) :: r, m, h => by
    unfold bindC
    rw [bindC_out fun w hw => h w (List.mem_cons_of_mem _ hw)]
    split
    · rfl
    · have : x ≠ n := by rintro rfl; exact h v List.mem_cons_self
      simp [this]
theorem bindL_get {kindOf : Str → Option NameKind} {x : Str} {v : Value} : ∀ {P : List Str} {vs : List Value} {i : Nat} {m : Str → Option Value}, P.Nodup → P[i]? = some x → vs[i]? = some v → kindOf x = some .local →
    bindL kindOf (P.zip vs) m x = some v
  | [], _, _, _, _, h, _, _ => by simp at h
  | _ :: _, [], _, _, _, _, h, _ => by simp at h
  | p :: P, w :: vs, 0, m, nd, h1, h2, hk => by
    simp at h1 h2; subst h1; subst h2
    show bindL kindOf ((p, w) :: P.zip vs) m p = _
    unfold bindL
    rw [bindL_out fun v hv => (List.nodup_cons.mp nd).1 (List.of_mem_zip hv).1, if_pos hk]
    simp
  | p :: P, w :: vs, i + 1, m, nd, h1, h2, hk => by
    show bindL kindOf ((p, w) :: P.zip vs) m x = _
    unfold bindL
    exact bindL_get (i := i) (List.nodup_cons.mp nd).2 (by simpa using h1) (by simpa using h2) hk
theorem bindC_get {kindOf : Str → Option NameKind} {x : Str} {v : Value} : ∀ {P : List Str} {vs : List Value} {i : Nat} {m : Str → Option Value}, P.Nodup → P[i]? = some x → vs[i]? = some v → kindOf x ≠ some .local →
    bindC kindOf (P.zip vs) m x = some v
  | [], _, _, _, _, h, _, _ => by simp at h
  | _ :: _, [], _, _, _, _, h, _ => by simp at h
  | p :: P, w :: vs, 0, m, nd, h1, h2, hk => by
    simp at h1 h2; subst h1; subst h2
    show bindC kindOf ((p, w) :: P.zip vs) m p = _
    unfold bindC
    rw [bindC_out fun v hv => (List.nodup_cons.mp nd).1 (List.of_mem_zip hv).1, if_neg hk]
    simp
  | p :: P, w :: vs, i + 1, m, nd, h1, h2, hk => by
    show bindC kindOf ((p, w) :: P.zip vs) m x = _
    unfold bindC
    exact bindC_get (i := i) (List.nodup_cons.mp nd).2 (by simpa using h1) (by simpa using h2) hk

/-- the names' values at the entry -/
def start (N : List Str) (vs : List V) : St := vs.map some ++ List.replicate (N.length - vs.length) none

/-- the context of a def's body, at its entry; an exception leaves the frame, then lies as CX says -/
def cxOf (CX : CXT) (P : Program) (w : World) (K : PySem.W.Frag) (mg : Str → Option Value) (base : Heap) (N : List Str) (qual : Str) (scope : Scope) (f : Addr) (cd : Value) (A : Around) (outer : List Env) (s : Shared) (H : Hp) (E : XK) : Cx where
  prog := P
  w := w
  K := K
  mg := mg
  base := base
  A := A.deeper (envOfC qual scope s.heap.objs.size f cd)
  N := N
  s₀ := s
  H₀ := H
  env := envOfC qual scope s.heap.objs.size f cd
  outer := outer
  stack := envOfC qual scope s.heap.objs.size f cd :: outer
  ex := []
  calm := true
  fn := fun _ => true
  pn := []
  xe := fun e s' => wpAny (model P w) (A.deeper (envOfC qual scope s.heap.objs.size f cd)) (leaving (envOfC qual scope s.heap.objs.size f cd) e) (fun _ s'' => CX outer H s E e s'') (fun e' s'' => CX outer H s E e' s'') s'

theorem cell_has {sc : Scope} {n : Nat} {x : Str} (h : sc.names.lookup x = some .cell) : ∃ c, (cellsFrom n sc.names []).lookup x = some c := by
  have q := PySem.W.cellsFrom_some sc.names n [] (.inl h)
  exact Option.isSome_iff_exists.mp q

theorem inv_start {CX : CXT} {P : Program} {w : World} {K : PySem.W.Frag} {mg : Str → Option Value} {base : Heap} {N ps : List Str} {qual : Str} {scope : Scope} {f : Addr} {cd : Value} {A : Around} {outer : List Env} {s s1 : Shared} {H : Hp} {E : XK} {us : List Value} {vs : List V}
    (S : FnScope N ps scope) (hd : A.handled = none) (e0 : Env0 P w K mg base A outer s H) (hl : vs.length = ps.length) (r : Vals vs us)
    (x : InCallC s s.heap.objs.size (bindL (envOfC qual scope s.heap.objs.size f cd).kindOf (ps.zip us) fun _ => none) (cellsFrom (s.heap.objs.size + 1) scope.names []) (bindC (envOfC qual scope s.heap.objs.size f cd).kindOf (ps.zip us) fun _ => none) s1) :
    Inv (cxOf CX P w K mg base N qual scope f cd A outer s H E) [] (start N vs) H s1 := by
  have hpl : ps.length ≤ N.length := by have := congrArg List.length S.pre; rw [List.length_take] at this; omega
  obtain ⟨h1, tk, rfl, hk⟩ := x.done
  have noA : ∀ b : Addr, b ∉ (cxOf CX P w K mg base N qual scope f cd A outer s H E).ex := fun b z => absurd (show b ∈ ([] : List Addr) from z) (by simp)
  refine ⟨⟨e0.mod, S.kind, rfl, rfl, Nat.le_refl _, fun y z c h1 h2 => ?_, fun y hy => ?_, fun y c _ h => ?_, fun _ => hd, Around.frames_deeper e0.frames, .inr ⟨rfl, rfl⟩, fun b z => absurd z (noA b), e0.bs, e0.bsz, fun b _ _ => noA b, fun b z => absurd z (noA b), e0.funs, e0.frf⟩,
    rfl, e0.bare, Un.kept hk, ⟨_, x.toInCall.ns, fun i y v h1 h2 h3 => ?_⟩, fun y c h => ⟨_, x.cell y c h⟩, e0.hok.fresh (Nat.le_refl _), fun y c h => ?_, fun p hp => absurd (show p ∈ ([] : List (Addr × Obj)) from hp) (by simp), e0.hok.kept hk, ?_⟩
  · exact name_of_addr x.apart (PySem.mem_of_lookup h1) (PySem.mem_of_lookup h2)
  · have hy : scope.names.lookup y = some .cell ∨ scope.names.lookup y = some .free := hy
    rcases hy with hy | hy
    · exact cell_has hy
    · exact absurd rfl (S.nofree _ (PySem.mem_of_lookup hy))
  · exact Nat.le_of_lt (x.above y c (PySem.mem_of_lookup h))
  · have hi : i < vs.length := by
      unfold start at h2
      by_cases hi : i < vs.length
      · exact hi
      · rw [List.getElem?_append_right (by simpa using hi)] at h2
        rw [List.getElem?_replicate] at h2
        split at h2 <;> cases h2
    have ha : vs[i]? = some v := by
      unfold start at h2
      rw [List.getElem?_append_left (by simpa using hi), List.getElem?_map] at h2
      cases e : vs[i]? with
      | none => rw [e] at h2; cases h2
      | some a => rw [e] at h2; cases h2; rfl
    obtain ⟨u, hu, rv⟩ := r.get ha
    have hp : ps[i]? = some y := by
      rw [← S.pre, List.getElem?_take_of_lt (by omega)]; exact h1
    have ndP : ps.Nodup := by rw [← S.pre]; exact S.nd.sublist (List.take_sublist _ _)
    refine ⟨u, rv, ?_⟩
    rcases S.par y (List.mem_of_getElem? hp) with k | k
    · exact .inl ⟨k, bindL_get ndP hp hu k⟩
    · obtain ⟨c, e⟩ := cell_has (n := s.heap.objs.size + 1) k
      refine .inr ⟨.inl k, c, e, ?_⟩
      have q := x.cell y c e
      rw [bindC_get ndP hp hu (by show scope.names.lookup y ≠ _; rw [k]; decide)] at q
      exact q
  · exact e0.hok.fresh (Nat.le_of_lt (x.above y c (PySem.mem_of_lookup h)))
  · unfold start
    show _ = N.length
    rw [List.length_append, List.length_map, List.length_replicate]
    omega

/-- THE RULE: a def (or a method) of the text, by its body. The body's reading t is chosen for each entry; it is run at the parameters' values -/
theorem fn_of {CX : CXT} {P : Program} {w : World} {K : PySem.W.Frag} {mg : Str → Option Value} {base : Heap} {k : Nat} {f : Addr} {name qual : Str} {params : Arguments} {body : List Stmt} {scope : Scope} {dV kV doc pm cdv ct oc : Value} {an od : Option Addr}
    {osl : Array (Option Value)} {N ps : List Str} {sp : Sp} (lk : K.lookup f = some ⟨oc, od, .func (PySem.W.fnOf name qual params body scope dV kV doc pm an cdv ct), osl⟩) (hcd : PySem.W.codeIn K cdv qual = true) (S : FnScope N ps scope)
    (len : ∀ vs H Q E, sp vs H Q E → vs.length = ps.length)
    (hbody : ∀ (A : Around) (outer : List Env) (s : Shared) (H : Hp) (vs : List V) (Q : VK) (E : XK), Room k (A.deeper (envOfC qual scope s.heap.objs.size f cdv)) → sp vs H Q E →
      ∃ t, PSs (cxOf CX P w K mg base N qual scope f cdv A outer s H E) body t ∧ t { nx := fun _ H' => Q .non H', rt := Q } (start N vs) H) :
    FnOk P w K mg base CX (k + 1) f (PySem.W.fnOf name qual params body scope dV kV doc pm an cdv ct) ps sp := by
  refine ⟨len, fun A outer s H args us vs Q E hr e0 hb r hsp => ?_⟩
  have hl := len _ _ _ _ hsp
  have KX : K.In s.heap := e0.mod.kin.keeps fun b o e => (e0.bs b o e).1
  have lim : s.heap.NoLimit := e0.mod.nolimit.keeps fun b o e => (e0.bs b o e).1
  have hkind : ∀ y ∈ ps.zip us, scope.names.lookup y.1 = some .local ∨ (scope.names.lookup y.1 = some .cell ∧ ((cellsFrom (s.heap.objs.size + 1) scope.names []).lookup y.1).isSome = true) := fun ⟨n, v⟩ hy => by
    rcases S.par n (List.of_mem_zip hy).1 with q | q
    · exact .inl q
    · exact .inr ⟨q, PySem.W.cellsFrom_some _ _ _ (.inl q)⟩
  refine codeAny_call_function hr.depth (KX _ _ lk) rfl S.co S.gen rfl (PySem.W.codeRec_of KX hcd) (hb _ _ _ _ ?_)
  refine wpAny_newFunctionEnv_cells S.kind hkind fun env he s1 x => ?_
  subst he
  refine ⟨lim.keeps x.toInCall.keep, codeAny_func ?_⟩
  obtain ⟨t, ht, hq⟩ := hbody A outer s H vs Q E (hr.deeper _) hsp
  have I : Inv (cxOf CX P w K mg base N qual scope f cdv A outer s H E) [] (start N vs) H s1 := inv_start S hr.hd e0 hl r x
  refine wpAny_mono (ht [] s1 (start N vs) H _ I hq) (fun fl s' hs => ?_) fun e s' hs => hs
  have fin : ∀ {σ' : St} {H' : Hp} {v : V} {u : Value}, Inv (cxOf CX P w K mg base N qual scope f cdv A outer s H E) [] σ' H' s' → RelV v u → Q v H' → CE outer P w H s Q u s' :=
    fun {σ' H' v u} J rv q => ⟨v, H', J.os, J.bare, J.base, J.hok, rv, q⟩
  cases fl with
  | ret u =>
    obtain ⟨v, σ', H', J, rv, q⟩ := hs
    exact fin J rv q
  | next =>
    obtain ⟨σ', H', J, q⟩ := hs
    exact fin (v := V.non) (u := Value.none) J rfl q
  | brk =>
    obtain ⟨_, _, _, q⟩ := hs
    exact False.elim q
  | cont =>
    obtain ⟨_, _, _, q⟩ := hs
    exact False.elim q
end L2

namespace L2
open PySem PySem.Spec PyProof.Rows
section
variable {X : Cx} {x : Str} {p pos : Pos} {e : Expr} {es : List Expr} {t : TA} {id T : String} {r : List V → Hp → VK → Prop}

def tCB (r : List V → Hp → VK → Prop) (t : TA) : TE := fun σ H Q => t σ H fun vs H1 => r vs H1 Q
/-- f(e, ..), f a built-in function -/
theorem pe_callB (hc : CallR X (.builtin id) r) (hg : Gl X x) (hm : X.mg x = none) (hv : bootBuiltins x = some (.builtin id)) (ha : PA X (e :: es) t) (hn : x ≠ "__name__" := by decide) (hdb : (x == ("__debug__" : Str)) = false := by decide)
    (he : starEach (e :: es) X.env = (false, eval e X.env) :: starEach es X.env := by rfl) (hpl : (backTo pos (starEach es X.env)).any (·.1) = false := by rfl) : PE X (.Call (.Name x p) (e :: es) [] pos) (tCB r t) := by
  intro pins s σ H Q I h
  refine wpAny_Call_Name_kw (ld_blt I hg hm hv ?_ hn hdb)
  exact PyProof.Rows.callWith_builtin1 (thn (ha pos pins s σ H _ I h) fun us s1 ⟨vs, H1, I1, r1, q1⟩ => hc pins s1 σ H1 vs us Q I1 r1 q1) he hpl
/-- T(e, ..), T a built-in type -/
theorem pe_callTy (hc : CallR X (.type T) r) (hg : Gl X x) (hm : X.mg x = none) (hv : bootBuiltins x = some (.type T)) (ha : PA X (e :: es) t) (hn : x ≠ "__name__" := by decide) (hdb : (x == ("__debug__" : Str)) = false := by decide)
    (he : starEach (e :: es) X.env = (false, eval e X.env) :: starEach es X.env := by rfl) (hpl : (backTo pos (starEach es X.env)).any (·.1) = false := by rfl) : PE X (.Call (.Name x p) (e :: es) [] pos) (tCB r t) := by
  intro pins s σ H Q I h
  refine wpAny_Call_Name_kw (ld_blt I hg hm hv ?_ hn hdb)
  exact PyProof.Rows.callWith_type1 (thn (ha pos pins s σ H _ I h) fun us s1 ⟨vs, H1, I1, r1, q1⟩ => hc pins s1 σ H1 vs us Q I1 r1 q1) he hpl
end
end L2

namespace HT
open PySem PyProof.Rows

section
open PySem.SeqAt
open PySem.AutoSeq1 (wpAny_loadPart')
open PySem.MeetsSeq PySem.MeetsSeq2 PySem.MeetsSeq3

end

section
variable {prog : Program} {w : World} {A : Around} {E : Value → Shared → Prop} {s : Shared}

/-! ### t[a:b], not the whole -/
/-- a slice's bound as a place among n (d where it is left out) -/
def sIx (n d : Nat) : Option Int → Nat
  | none => d
  | some v => if v < 0 then (v + (n : Int)).toNat else min v.toNat n
theorem sIx_none (n d : Nat) : sIx n d none = d := rfl
theorem sIx_nat (n d k : Nat) : sIx n d (some (k : Int)) = min k n := by
  show (if (k : Int) < 0 then ((k : Int) + (n : Int)).toNat else min (k : Int).toNat n) = min k n
  rw [if_neg (by omega), Int.toNat_natCast]
theorem sIx_le (n d : Nat) (hd : d ≤ n) (o : Option Int) : sIx n d o ≤ n := by
  cases o with
  | none => exact hd
  | some v =>
    show (if v < 0 then (v + (n : Int)).toNat else min v.toNat n) ≤ n
    by_cases hv : v < 0
    · rw [if_pos hv]; omega
    · rw [if_neg hv]; exact Nat.min_le_right _ _
theorem clip_eq (v : Int) (n d : Nat) : (if v < 0 then max (v + (n : Int)) 0 else min v (n : Int)) = ((sIx n d (some v) : Nat) : Int) := by
  show (if v < 0 then max (v + (n : Int)) 0 else min v (n : Int)) = (((if v < 0 then (v + (n : Int)).toNat else min v.toNat n) : Nat) : Int)
  by_cases hv : v < 0
  · simp only [if_pos hv]; omega
  · simp only [if_neg hv]; omega
theorem adjust_gen (lo hi : Option Int) (n : Nat) : Builtin.Slice.sliceAdjust lo hi 1 (n : Int) = (((sIx n 0 lo : Nat) : Int), ((sIx n n hi : Nat) : Int)) := by
  have h1 : ¬ ((1 : Int) < 0) := by omega
  unfold Builtin.Slice.sliceAdjust
  simp only [h1, if_false]
  refine Prod.ext ?_ ?_
  · cases lo with
    | none => rfl
    | some v => exact clip_eq v n 0
  · cases hi with
    | none => rfl
    | some v => exact clip_eq v n n
theorem places_gen (i j : Nat) : Builtin.Slice.slicePlaces (i : Int) (j : Int) 1 = j - i := by
  unfold Builtin.Slice.slicePlaces
  have h1 : (1 : Int) > 0 := by omega
  simp only [h1, if_true, Int.ediv_one]
  split <;> omega
theorem slicePart_ {v : Value} {o : Option Int} {Q : Option Int → Shared → Prop} (p : IsPart v o) (h : Q o s) : wpAny (model prog w) A (Builtin.Slice.slicePartIndex v) Q E s := by
  cases p with
  | none => exact slicePart_none h
  | int i t => exact slicePart_int h
theorem sliceApplied_gen {sl : Addr} {vl vu : Value} {lo hi : Option Int} {n : Nat} {Q : Int × Int × Nat → Shared → Prop} (hs : s.heap.IsSliceOf sl vl vu .none) (pl : IsPart vl lo) (pu : IsPart vu hi)
    (h : Q (((sIx n 0 lo : Nat) : Int), 1, sIx n n hi - sIx n 0 lo) s) : wpAny (model prog w) A (Builtin.Slice.sliceApplied (.ref sl) (pure (n : Int))) Q E s := by
  obtain ⟨os, hos, hcs, hds⟩ := id hs
  unfold Builtin.Slice.sliceApplied Builtin.Slice.sliceFields
  refine wpAny_bind (wpAny_bind (wpAny_field hos hds (x := vl) rfl (wpAny_bind (wpAny_field hos hds (x := vu) rfl (wpAny_bind (wpAny_field hos hds (x := .none) rfl (wpAny_pure ?_)))))))
  refine wpAny_bind (slicePart_none ?_)
  show wpAny _ _ (if ((1 : Int) == 0) = true then _ else _) _ _ s
  rw [if_neg (by decide)]
  refine wpAny_bind (slicePart_ pl (wpAny_bind (slicePart_ pu (wpAny_bind (wpAny_pure ?_)))))
  show wpAny _ _ (match Builtin.Slice.sliceAdjust lo hi 1 (n : Int) with | (lo, hi) => pure (lo, (1 : Int), Builtin.Slice.slicePlaces lo hi 1)) _ _ s
  rw [adjust_gen lo hi n]
  show wpAny _ _ (pure (((sIx n 0 lo : Nat) : Int), (1 : Int), Builtin.Slice.slicePlaces ((sIx n 0 lo : Nat) : Int) ((sIx n n hi : Nat) : Int) 1)) _ _ s
  rw [places_gen]
  exact wpAny_pure h
theorem pick_gen (xs : Array Value) (i k : Nat) : ((List.range k).filterMap fun (m : Nat) => xs[((i : Int) + (m : Int) * 1).toNat]?).toArray = ((xs.toList.drop i).take k).toArray := by
  have e : (fun (m : Nat) => xs[((i : Int) + (m : Int) * 1).toNat]?) = fun m => xs[i + m]? := by
    funext m
    have : ((i : Int) + (m : Int) * 1).toNat = i + m := by omega
    rw [this]
  rw [e]
  have := pick_run xs i k
  rw [List.filterMap_map] at this
  have e2 : ((fun x => xs[x]?) ∘ fun x => i + x) = fun m => xs[i + m]? := rfl
  rw [e2] at this
  rw [this]

theorem getItem_tuple_cut {t sl : Addr} {items : Array Value} {vl vu : Value} {lo hi : Option Int} {Q : Value → Shared → Prop} (ht : IsTup s.heap t items) (hs : s.heap.IsSliceOf sl vl vu .none) (pl : IsPart vl lo) (pu : IsPart vu hi)
    (hw : ¬ (sIx items.size 0 lo = 0 ∧ sIx items.size items.size hi = items.size))
    (h : Q (.ref s.heap.objs.size) { s with heap := s.heap.push { cls := .type "tuple", data := .seq ((items.toList.drop (sIx items.size 0 lo)).take (sIx items.size items.size hi - sIx items.size 0 lo)).toArray } })
    (hsz : items.size ≤ sizeLine) : wpAny (model prog w) A (getItem (.ref t) (.ref sl)) Q E s := by
  have htake : sizeOk (.seq ((items.toList.drop (sIx items.size 0 lo)).take (sIx items.size items.size hi - sIx items.size 0 lo)).toArray) := by
    show ((items.toList.drop (sIx items.size 0 lo)).take (sIx items.size items.size hi - sIx items.size 0 lo)).toArray.size ≤ sizeLine
    rw [List.size_toArray, List.length_take, List.length_drop, Array.length_toList]
    omega
  have hj : sIx items.size items.size hi ≤ items.size := sIx_le _ _ (Nat.le_refl _) hi
  obtain ⟨os, hos, hcs, hds⟩ := id hs
  have hTs : s.TypeIs (.ref sl) "slice" := ⟨os, hos, hcs⟩
  unfold getItem
  try with_reducible refine wpAny_holding ?_
  first | refine wpAny_bind (wpAny_pure ?_) | skip
  refine wpAny_bind (wpAny_sequenceKey ht.typeIs (by decide) ?_)
  refine wpAny_bind (wpAny_callSpecial?_slot (name := Str.ofString "__getitem__") ht.typeIs PyProof.Rows.slot_tuple_getitem
    (wpAny_call_entry PyProof.Rows.slot_tuple_getitem ht.typeIs entry_tuple_getitem ?_ (args_tuple_getitem _ _)))
  show wpAny _ _ (Builtin.Tuple.tupleItemsOf (.ref t) >>= _) _ _ s
  refine wpAny_bind (tupleItemsOf_ ht ?_)
  refine wpAny_bind (wpAny_typeOf hTs ?_)
  rw [if_pos (by decide)]
  refine wpAny_bind (sliceApplied_gen hs pl pu ?_)
  have hno : ¬ ((((sIx items.size 0 lo : Nat) : Int) == 0 && (1 : Int) == 1 && (sIx items.size items.size hi - sIx items.size 0 lo) == items.size) = true) := by
    intro q
    rw [Bool.and_eq_true, Bool.and_eq_true] at q
    have q1 : ((sIx items.size 0 lo : Nat) : Int) = 0 := eq_of_beq q.1.1
    have q2 : sIx items.size items.size hi - sIx items.size 0 lo = items.size := eq_of_beq q.2
    exact hw ⟨by omega, by omega⟩
  show wpAny _ _ (if (((sIx items.size 0 lo : Nat) : Int) == 0 && (1 : Int) == 1 && (sIx items.size items.size hi - sIx items.size 0 lo) == items.size) = true then _ else _) _ _ s
  rw [if_neg hno, pick_gen]
  first
    | exact wpAny_bind (m := Builtin.Tuple.tupleExact _) (wpAny_newObj_type (wpAny_pure ⟨_, rfl, wpAny_pure h⟩) htake)
    | exact wpAny_bind (m := Builtin.Tuple.tupleExact _) (wpAny_newObj_type (wpAny_bind (wpAny_pure (wpAny_pure ⟨_, rfl, wpAny_pure h⟩))) htake)
    | exact wpAny_bind (wpAny_bind (m := Builtin.Tuple.tupleExact _) (wpAny_newObj_type (wpAny_pure (wpAny_pure ⟨_, rfl, wpAny_pure h⟩)) htake))
    | exact wpAny_bind (wpAny_bind (m := Builtin.Tuple.tupleExact _) (wpAny_newObj_type (wpAny_pure ⟨_, rfl, wpAny_pure h⟩) htake))
end
end HT

namespace L2
open PySem PySem.Spec PyProof.Rows

/-! ### the parts of a slice -/
abbrev TO := St → Hp → (Option Int → Hp → Prop) → Prop
/-- a slice's part (left out, or an int) -/
def PO (X : Cx) (e : Option Expr) (t : TO) : Prop :=
  ∀ (pins : List (Addr × Obj)) (s : Shared) (σ : St) (H : Hp) (Q : Option Int → Hp → Prop), Inv X pins σ H s → t σ H Q →
    wpAny (model X.prog X.w) X.A (evalPart e X.env) (fun u s' => ∃ o H', Inv X pins σ H' s' ∧ IsPart u o ∧ Q o H') X.xe s
def tNoPart : TO := fun _ H Q => Q none H
def tPart (t : TE) : TO := fun σ H Q => t σ H fun x H1 => ∃ i, x = .int i ∧ Q (some i) H1

section
variable {X : Cx} {e : Expr} {te : TE} {lo hi : Option Expr} {tl th : TO} {pos p2 : Pos}

theorem po_none : PO X none tNoPart := by
  intro pins s σ H Q I h
  rw [evalPart_none]
  exact wpAny_pure ⟨none, H, I, .none, h⟩
theorem po_some (h : PE X e te) : PO X (some e) (tPart te) := by
  intro pins s σ H Q I hw
  rw [evalPart_some]
  refine thn (h pins s σ H _ I hw) fun u s1 ⟨x, H1, I1, r1, q1⟩ => ?_
  obtain ⟨i, rfl, q⟩ := q1
  obtain ⟨t, rfl⟩ := r1
  exact ⟨some i, H1, I1, .int i t, q⟩

/-- what a slice of a value is, by values: the slice object stands at sl -/
def SlR (X : Cx) (r : V → Option Int → Option Int → Hp → VK → Prop) : Prop :=
  ∀ (pins : List (Addr × Obj)) (s : Shared) (σ : St) (H : Hp) (x : V) (v vl vu : Value) (lo hi : Option Int) (sl : Addr) (Q : VK), Inv X pins σ H s → RelV x v → s.heap.IsSliceOf sl vl vu .none → IsPart vl lo → IsPart vu hi → r x lo hi H Q →
    ∃ T id, typeLookup (.type T) "__getitem__" = pure (some (.builtin id)) ∧ s.TypeIs v T ∧ wpAny (model X.prog X.w) X.A (getItem v (.ref sl)) (EP X pins σ Q) X.xe s
def tSl (r : V → Option Int → Option Int → Hp → VK → Prop) (te : TE) (tl th : TO) : TE := fun σ H Q => te σ H fun x H1 => tl σ H1 fun l H2 => th σ H2 fun u H3 => r x l u H3 Q
/-- a[lo:hi], any a -/
theorem pe_slice {r : V → Option Int → Option Int → Hp → VK → Prop} (hr : SlR X r) (he : PE X e te) (hl : PO X lo tl) (hu : PO X hi th) : PE X (.Subscript e (.Slice lo hi none p2) pos) (tSl r te tl th) := by
  intro pins s σ H Q I h
  refine Subscript_ (thn (he pins s σ H _ I h) fun v s1 ⟨x, H1, I1, r1, q1⟩ => ?_)
  refine wpAny_Slice (thn (hl pins s1 σ H1 _ I1 q1) fun vl s2 ⟨l, H2, I2, pl, q2⟩ => thn (hu pins s2 σ H2 _ I2 q2) fun vu s3 ⟨u, H3, I3, pu, q3⟩ => ?_)
  rw [evalPart_none]
  refine wpAny_pure ?_
  have I4 : Inv X pins σ H3 { s3 with heap := s3.heap.push { cls := .type "slice", data := .fields #[vl, vu, .none] } } := I3.kept (t' := s3.toks) fun b ob q => Heap.get?_push_of_some _ q
  obtain ⟨T, id, hT, ht, hg⟩ := hr pins { s3 with heap := s3.heap.push { cls := .type "slice", data := .fields #[vl, vu, .none] } } σ H3 x v vl vu l u s3.heap.objs.size Q I4 r1 (Heap.IsSliceOf.new ..) pl pu q3
  show wpAny (model X.prog X.w) X.A (subscriptTail e (.Slice lo hi none p2) v (.ref s3.heap.objs.size)) (EP X pins σ Q) X.xe { s3 with heap := s3.heap.push { cls := .type "slice", data := .fields #[vl, vu, .none] } }
  exact tail_any (ops := [.ref s3.heap.objs.size, v]) ht hT hg (by with_unfolding_all rfl)

/-- the items of xs[lo:hi] -/
def cutV (xs : List V) (lo hi : Option Int) : List V := (xs.drop (HT.sIx xs.length 0 lo)).take (HT.sIx xs.length xs.length hi - HT.sIx xs.length 0 lo)
theorem cutV_length (xs : List V) (lo hi : Option Int) : (cutV xs lo hi).length ≤ xs.length := by
  unfold cutV
  rw [List.length_take, List.length_drop]
  omega
/-- t[lo:hi], not the whole of it (the whole would be t itself) -/
def rSlT (K : PySem.W.Frag) : V → Option Int → Option Int → Hp → VK → Prop := fun x lo hi H Q => ∃ a xs, x = .ref a ∧ SqT K H a xs ∧
  ¬ (HT.sIx xs.length 0 lo = 0 ∧ HT.sIx xs.length xs.length hi = xs.length) ∧ ∀ p, H p = none → Q (.ref p) (upd H p (.tup (cutV xs lo hi)))
theorem sl_tup : SlR X (rSlT X.K) := by
  intro pins s σ H x v vl vu lo hi sl Q I rx hs pl pu h
  obtain ⟨a, xs, rfl, hx, hw, q⟩ := h
  cases rx
  obtain ⟨its, r, ht, hz⟩ := I.tuple hx
  have hlen : its.toArray.size = xs.length := by rw [List.size_toArray]; exact r.length.symm
  refine ⟨"tuple", _, PyProof.Rows.slot_tuple_getitem.lookup, ht.typeIs, ?_⟩
  refine HT.getItem_tuple_cut ht hs pl pu (by rw [hlen]; exact hw) ?_ (by rw [hlen]; exact hz)
  rw [hlen]
  refine ⟨.ref s.heap.objs.size, _, I.laid (t' := s.toks) (o := .tup (cutV xs lo hi)) (fun b ob q => Heap.get?_push_of_some _ q) (Nat.le_refl _) ?_, rfl, q _ (I.hok.fresh (Nat.le_refl _))⟩
  exact ⟨Nat.le_trans (cutV_length xs lo hi) hz, _, (r.drop (HT.sIx xs.length 0 lo)).take (HT.sIx xs.length xs.length hi - HT.sIx xs.length 0 lo), IsTup.new _ _⟩

/-! ### t < u, t + u -/
/-- tuple(t) -/
theorem call_tupleT : CallR X (.type "tuple") (fun xs H Q => ∃ a ys, xs = [.ref a] ∧ SqT X.K H a ys ∧ Q (.ref a) H) := by
  intro pins s σ H xs us Q I r h
  obtain ⟨a, ys, rfl, ha, q⟩ := h
  obtain ⟨u, rfl, ru⟩ := vals1 r
  cases ru
  obtain ⟨its, _, p1, _⟩ := I.tuple ha
  exact call_tuple_same (items := its.toArray) p1 ⟨.ref a, H, I, rfl, q⟩
end
end L2

namespace L2
open PySem PySem.Spec PyProof.Rows

/-! ### places -/
/-- the place that an index of any sign means -/
def ixN (n : Nat) (i : Int) : Option Nat := if 0 ≤ i then (if i < n then some i.toNat else none) else if -(n : Int) ≤ i then some (i + n).toNat else none
def atI {α : Type} (xs : List α) (i : Int) : Option α := (ixN xs.length i).bind fun j => xs[j]?
theorem ixN_seq {n : Nat} {i : Int} {j : Nat} (h : ixN n i = some j) : seqIndex? i n = some j ∧ j < n ∧ -(n : Int) ≤ i ∧ i < n := by
  unfold ixN at h
  by_cases h0 : 0 ≤ i
  · rw [if_pos h0] at h
    by_cases h1 : i < n
    · rw [if_pos h1] at h
      have e : i.toNat = j := Option.some.inj h
      exact ⟨by rw [seqIndex_of h0 h1, e], by omega, by omega, h1⟩
    · rw [if_neg h1] at h; cases h
  · rw [if_neg h0] at h
    by_cases h1 : -(n : Int) ≤ i
    · rw [if_pos h1] at h
      have e : (i + n).toNat = j := Option.some.inj h
      exact ⟨by rw [seqIndex_neg (by omega) h1, e], by omega, h1, by omega⟩
    · rw [if_neg h1] at h; cases h
theorem atI_get {α : Type} {xs : List α} {i : Int} {v : α} (h : atI xs i = some v) : ∃ j, seqIndex? i xs.length = some j ∧ xs[j]? = some v ∧ j < xs.length ∧ -(xs.length : Int) ≤ i ∧ i < xs.length := by
  unfold atI at h
  cases e : ixN xs.length i with
  | none => rw [e] at h; cases h
  | some j =>
    rw [e] at h
    obtain ⟨h1, h2, h3, h4⟩ := ixN_seq e
    exact ⟨j, h1, h, h2, h3, h4⟩
theorem atI_nat {α : Type} {xs : List α} {j : Nat} {v : α} (h : xs[j]? = some v) : atI xs (j : Int) = some v := by
  have hj : j < xs.length := (List.getElem?_eq_some_iff.mp h).1
  have e : ixN xs.length (j : Int) = some j := by
    unfold ixN
    rw [if_pos (by omega), if_pos (by omega)]; simp
  unfold atI; rw [e]; exact h
theorem atI_last {α : Type} (xs : List α) (v : α) : atI (xs ++ [v]) (-1) = some v := by
  have hl : (xs ++ [v]).length = xs.length + 1 := by simp
  have e : ixN (xs ++ [v]).length (-1) = some xs.length := by
    unfold ixN
    rw [hl, if_neg (by decide), if_pos (by omega)]
    congr 1
    omega
  unfold atI
  rw [e]
  show (xs ++ [v])[xs.length]? = some v
  simp

/-! ### what may be subscripted -/
/-- what stands as an index of a plain subscript -/
def PlainIx (b : Expr) : Prop := ∀ o i, subscripted b false o i = operate [o, i] (getItem o i)
/-- a subscript by values -/
def IxR (X : Cx) (r : R2) : Prop :=
  ∀ (value slice : Expr) (pins : List (Addr × Obj)) (s : Shared) (σ : St) (H : Hp) (x y : V) (v u : Value) (Q : VK), Inv X pins σ H s → RelV x v → RelV y u → r x y H Q →
    subscripted slice false v u = operate [v, u] (getItem v u) → wpAny (model X.prog X.w) X.A (subscriptTail value slice v u) (EP X pins σ Q) X.xe s
/-- a call of a builtin's method by values: the receiver, the arguments -/
def MtR (X : Cx) (id : String) (r : V → List V → Hp → VK → Prop) : Prop :=
  ∀ (pins : List (Addr × Obj)) (s : Shared) (σ : St) (H : Hp) (x : V) (xs : List V) (v : Value) (us : List Value) (Q : VK), Inv X pins σ H s → RelV x v → Vals xs us → r x xs H Q →
    wpAny (model X.prog X.w) X.A (call (.builtin id) (v :: us)) (EP X pins σ Q) X.xe s
section
variable {X : Cx} {a b : Expr} {ta tb : TE} {pos : Pos}
theorem IxR.or {r r' : R2} (h : IxR X r) (h' : IxR X r') : IxR X (fun x y H Q => r x y H Q ∨ r' x y H Q) := by
  intro value slice pins s σ H x y v u Q I rx ry q hs
  rcases q with q | q
  · exact h value slice pins s σ H x y v u Q I rx ry q hs
  · exact h' value slice pins s σ H x y v u Q I rx ry q hs
/-- a[b] -/
theorem pe_ix {r : R2} (hr : IxR X r) (ha : PE X a ta) (hb : PE X b tb) (hs : PlainIx b) : PE X (.Subscript a b pos) (tOp r ta tb) := by
  intro pins s σ H Q I h
  exact Subscript_ (binT ha hb I h fun v u s2 x y H2 I2 rx ry q => hr a b pins s2 σ H2 x y v u Q I2 rx ry q (hs _ _))

def rIxL (K : PySem.W.Frag) : R2 := fun x y H Q => ∃ p xs i v, x = .ref p ∧ y = .int i ∧ SqL K H p xs ∧ atI xs i = some v ∧ Q v H
def rIxT (K : PySem.W.Frag) : R2 := fun x y H Q => ∃ p xs i v, x = .ref p ∧ y = .int i ∧ SqT K H p xs ∧ atI xs i = some v ∧ Q v H
def rIxS : R2 := fun x y H Q => ∃ z i c, x = .str z ∧ y = .int i ∧ z.length ≤ sizeLine ∧ atI z.cps.toList i = some c ∧ Q (.str ⟨#[c]⟩) H
theorem ix_list : IxR X (rIxL X.K) := by
  intro value slice pins s σ H x y v u Q I rx ry h hs
  obtain ⟨p, xs, i, z, rfl, rfl, hq, he, q⟩ := h
  cases rx
  obtain ⟨t, rfl⟩ := ry
  obtain ⟨its, r, pl, hz⟩ := I.list hq
  obtain ⟨j, h1, h2, h3, h4, h5⟩ := atI_get he
  obtain ⟨w, ew, rw'⟩ := r.get h2
  have hl := r.length
  have hn := line63
  have fin : EP X pins σ Q w s := ⟨z, H, I, rw', q⟩
  by_cases h0 : 0 ≤ i
  · have hj : i.toNat = j := by
      rw [seqIndex_of h0 h5] at h1
      exact Option.some.inj h1
    exact item_listR pl.isList h0 (by omega) (by rw [hj]; simpa using ew) fin hs
  · have hj : (i + (its.toArray.size : Int)).toNat = j := by
      rw [seqIndex_neg (by omega) h4] at h1
      rw [List.size_toArray, ← hl]
      exact Option.some.inj h1
    exact subscriptTail_builtinR (x := w) pl.isList.typeIs slot_list_getitem.lookup
      (wpAny_getItem_list_neg (Q := fun r s' => r = w ∧ EP X pins σ Q r s') pl.isList (by omega) (by rw [List.size_toArray] <;> omega) (by omega) (by rw [hj]; simpa using ew) ⟨rfl, fin⟩) hs
theorem ix_tup : IxR X (rIxT X.K) := by
  intro value slice pins s σ H x y v u Q I rx ry h hs
  obtain ⟨p, xs, i, z, rfl, rfl, hq, he, q⟩ := h
  cases rx
  obtain ⟨t, rfl⟩ := ry
  obtain ⟨its, r, pl, hz⟩ := I.tuple hq
  obtain ⟨j, h1, h2, h3, h4, h5⟩ := atI_get he
  obtain ⟨w, ew, rw'⟩ := r.get h2
  have hl := r.length
  have hn := line63
  have fin : EP X pins σ Q w s := ⟨z, H, I, rw', q⟩
  exact subscriptTail_builtinR (x := w) pl.typeIs slot_tuple_getitem.lookup
    (getItem_tuple (j := j) (Q := fun r s' => r = w ∧ EP X pins σ Q r s') pl (by omega) (by omega) (by rw [List.size_toArray, ← hl]; exact h1) (by simpa using ew) ⟨rfl, fin⟩) hs
theorem ix_str : IxR X rIxS := by
  intro value slice pins s σ H x y v u Q I rx ry h hs
  obtain ⟨z, i, c, rfl, rfl, hz, he, q⟩ := h
  obtain ⟨t, rfl⟩ := rx
  obtain ⟨t', rfl⟩ := ry
  obtain ⟨j, h1, h2, h3, h4, h5⟩ := atI_get he
  have hl : z.cps.toList.length = z.length := by simp [Str.length]
  rw [hl] at h1 h4 h5
  have hn := line63
  exact tail_any (typeIs_str s z t) slot_str_getitem.lookup (getItem_str (c := c) (by
    have e1 : decide (i < -(2 ^ 63 : Int)) = false := decide_eq_false (by omega)
    have e2 : decide (i ≥ 2 ^ 63) = false := decide_eq_false (by omega)
    rw [e1, e2, Bool.or_false]) (by rw [h1]; simpa using h2) ⟨.str ⟨#[c]⟩, H, I.tok _, ⟨_, rfl⟩, q⟩) hs
/-- list, tuple or str -/
def rIx (K : PySem.W.Frag) : R2 := fun x y H Q => rIxL K x y H Q ∨ rIxT K x y H Q ∨ rIxS x y H Q
theorem ix_seq : IxR X (rIx X.K) := ix_list.or (ix_tup.or ix_str)

/-! ### xs[i] = v, any sign -/
/-- the list's object behind a store -/
theorem mapSeq_set (its : List Value) (n j : Nat) (u : Value) : Obj.mapSeq (·.setIfInBounds j u) { cls := .type "list", data := .seq its.toArray n } = { cls := .type "list", data := .seq (its.set j u).toArray n } := by
  simp [Obj.mapSeq]
theorem Inv.lst {pins : List (Addr × Obj)} {σ : St} {H : Hp} {s : Shared} {p : Addr} {xs : List V} (I : Inv X pins σ H s) (h : H p = some (.lst xs)) :
    ∃ (its : List Value) (n : Nat), Vals xs its ∧ s.heap.get? p = some { cls := .type "list", data := .seq its.toArray n } ∧ xs.length ≤ sizeLine := by
  obtain ⟨z, its, n, r, e⟩ := I.hok p _ h
  exact ⟨its, n, r, e, z⟩
/-- the list at p is written by an update of its object -/
theorem Inv.lstUpd {pins : List (Addr × Obj)} {σ : St} {H : Hp} {s : Shared} {p : Addr} {xs ys : List V} {its its' : List Value} {n n' : Nat} {f : Obj → Obj} (I : Inv X pins σ H s) (h : H p = some (.lst xs))
    (ho : s.heap.get? p = some { cls := .type "list", data := .seq its.toArray n }) (hf : f { cls := .type "list", data := .seq its.toArray n } = { cls := .type "list", data := .seq its'.toArray n' }) (r : Vals ys its') (hz : ys.length ≤ sizeLine) (t : Nat) :
    Inv X pins σ (upd H p (.lst ys)) { s with heap := s.heap.update p f, toks := t } := by
  have e : (s.heap.update p f).get? p = some { cls := .type "list", data := .seq its'.toArray n' } := by
    rw [Heap.get?_update_self f ho (by rw [hf] <;> rfl), hf]
  refine I.write (x := p) (e := p) (by rw [h]; trivial) (.inl rfl) (fun b u hb q => (Heap.get?_update_other _ _ (Ne.symm hb)).trans q) ⟨_, e⟩ ?_
  exact ⟨hz, its', n', r, e⟩
def rSetL : V → V → V → Hp → (Hp → Prop) → Prop := fun o i v H Q => ∃ p xs k j, o = .ref p ∧ i = .int k ∧ H p = some (.lst xs) ∧ ixN xs.length k = some j ∧ Q (upd H p (.lst (xs.set j v)))
theorem set_list : PSet X rSetL := by
  intro pins s σ H o i v ov iv u Q I ro ri rv h
  obtain ⟨p, xs, k, j, rfl, rfl, hp, hj, q⟩ := h
  cases ro
  obtain ⟨t, rfl⟩ := ri
  obtain ⟨its, n, r, ho, hz⟩ := I.lst hp
  obtain ⟨h1, h2, h3, h4⟩ := ixN_seq hj
  have hl := r.length
  have hn := line63
  have I' : Inv X pins σ (upd H p (.lst (xs.set j v))) { s with heap := s.heap.update p (Obj.mapSeq (·.setIfInBounds j u)) } :=
    I.lstUpd hp ho (mapSeq_set its n j u) (r.set rv j) (by rw [List.length_set]; exact hz) s.toks
  by_cases h0 : 0 ≤ k
  · have hk : k.toNat = j := by
      rw [seqIndex_of h0 h4] at h1
      exact Option.some.inj h1
    exact PySem.W.ki_setAt ho h0 (by omega) (by rw [List.size_toArray, ← hl]; exact h4) (by rw [hk]; exact ⟨_, I', q⟩)
  · have hk : (k + (its.toArray.size : Int)).toNat = j := by
      rw [seqIndex_neg (by omega) h3] at h1
      rw [List.size_toArray, ← hl]
      exact Option.some.inj h1
    exact PySem.W.ki_setBack ho (by omega) (by rw [List.size_toArray, ← hl]; exact h3) (by omega) (by rw [hk]; exact ⟨_, I', q⟩)

/-! ### slices -/
theorem slice_bounds (lo hi : Option Int) (n : Nat) : (sliceBounds lo hi none n).1 = ((HT.sIx n 0 lo : Nat) : Int) ∧ (sliceBounds lo hi none n).2.1 = ((HT.sIx n n hi : Nat) : Int) ∧ (sliceBounds lo hi none n).2.2 = 1 := by
  refine ⟨?_, ?_, rfl⟩
  · cases lo with
    | none => simp [sliceBounds, HT.sIx]
    | some i =>
      simp only [sliceBounds, HT.sIx, Option.getD_none, show (1 : Int) > 0 by decide, if_true]
      by_cases h : i < 0
      · simp only [h, if_true] <;> omega
      · simp only [h, if_false] <;> omega
  · cases hi with
    | none => simp [sliceBounds, HT.sIx]
    | some i =>
      simp only [sliceBounds, HT.sIx, Option.getD_none, show (1 : Int) > 0 by decide, if_true]
      by_cases h : i < 0
      · simp only [h, if_true] <;> omega
      · simp only [h, if_false] <;> omega
theorem slicePick_cut (its : List Value) (lo hi : Option Int) : slicePick its.toArray lo hi none = ((its.drop (HT.sIx its.length 0 lo)).take (HT.sIx its.length its.length hi - HT.sIx its.length 0 lo)).toArray := by
  obtain ⟨h1, h2, h3⟩ := slice_bounds lo hi its.toArray.size
  unfold slicePick
  rw [h1, h2, h3]
  simp only [sliceRange_one, pick_run, List.size_toArray] <;> rfl
/-- xs[lo:hi] of a list: a new list -/
def rSlL (K : PySem.W.Frag) : V → Option Int → Option Int → Hp → VK → Prop := fun x lo hi H Q => ∃ a xs, x = .ref a ∧ SqL K H a xs ∧ ∀ p, H p = none → Q (.ref p) (upd H p (.lst (cutV xs lo hi)))
theorem sl_list : SlR X (rSlL X.K) := by
  intro pins s σ H x v vl vu lo hi sl Q I rx hs pl pu h
  obtain ⟨a, xs, rfl, hx, q⟩ := h
  cases rx
  obtain ⟨its, r, ht, hz⟩ := I.list hx
  have hlen := r.length
  refine ⟨"list", _, slot_list_getitem.lookup, ht.isList.typeIs, ?_⟩
  refine wpAny_getItem_list_slice ht.isList hs pl pu .none (by simp) ?_ (by rw [List.size_toArray] <;> omega)
  rw [slicePick_cut, ← hlen]
  refine ⟨.ref s.heap.objs.size, _, I.laid (t' := s.toks) (o := .lst (cutV xs lo hi)) (fun b ob q => Heap.get?_push_of_some _ q) (Nat.le_refl _) ?_, rfl, q _ (I.hok.fresh (Nat.le_refl _))⟩
  exact ⟨Nat.le_trans (cutV_length xs lo hi) hz, _, 0, (r.drop (HT.sIx xs.length 0 lo)).take (HT.sIx xs.length xs.length hi - HT.sIx xs.length 0 lo), Heap.get?_push_size _ rfl⟩

/-! ### in, not in: flat items -/
def flatV : V → Bool
  | .non => true
  | .bl _ => true
  | .int _ => true
  | .str _ => true
  | _ => false
/-- == of flat values -/
def eqV : V → V → Bool
  | .non, .non => true
  | .bl a, .bl b => a == b
  | .bl a, .int b => (if a then 1 else 0) == b
  | .int a, .bl b => a == (if b then 1 else 0)
  | .int a, .int b => a == b
  | .str a, .str b => a == b
  | _, _ => false
theorem eqAt_V {A : Around} {s : Shared} {y x : V} {u v : Value} (ry : RelV y u) (rx : RelV x v) (fy : flatV y = true) (fx : flatV x = true) : SeqAt.EqAt A s u v (eqV y x) := by
  cases y with
  | non =>
    cases ry
    cases x with
    | non => cases rx; exact SeqAt.EqAt.same _
    | bl b => cases rx; exact SeqAt.EqAt.none_bool b
    | int b => obtain ⟨t, rfl⟩ := rx; exact SeqAt.EqAt.none_int b t
    | str b => obtain ⟨t, rfl⟩ := rx; exact SeqAt.EqAt.none_str b t
    | _ => exact absurd (show false = true from fx) Bool.false_ne_true
  | bl a =>
    cases ry
    cases x with
    | non => cases rx; exact SeqAt.EqAt.bool_none a
    | bl b => cases rx; exact SeqAt.EqAt.bool_bool a b
    | int b => obtain ⟨t, rfl⟩ := rx; exact SeqAt.EqAt.bool_int a b t
    | str b => obtain ⟨t, rfl⟩ := rx; exact SeqAt.EqAt.bool_str a b t
    | _ => exact absurd (show false = true from fx) Bool.false_ne_true
  | int a =>
    obtain ⟨t', rfl⟩ := ry
    cases x with
    | non => cases rx; exact SeqAt.EqAt.int_none a t'
    | bl b => cases rx; exact SeqAt.EqAt.int_bool a t' b
    | int b => obtain ⟨t, rfl⟩ := rx; exact SeqAt.EqAt.int_int a t' b t
    | str b => obtain ⟨t, rfl⟩ := rx; exact SeqAt.EqAt.int_str a t' b t
    | _ => exact absurd (show false = true from fx) Bool.false_ne_true
  | str a =>
    obtain ⟨t', rfl⟩ := ry
    cases x with
    | non => cases rx; exact SeqAt.EqAt.str_none a t'
    | bl b => cases rx; exact SeqAt.EqAt.str_bool a t' b
    | int b => obtain ⟨t, rfl⟩ := rx; exact SeqAt.EqAt.str_int a t' b t
    | str b => obtain ⟨t, rfl⟩ := rx; exact SeqAt.EqAt.str_str a t' b t
    | _ => exact absurd (show false = true from fx) Bool.false_ne_true
  | _ => exact absurd (show false = true from fy) Bool.false_ne_true
/-- the items' answers, read off the values (a value's own answer does not lean on its token) -/
def eqU (x : V) (u : Value) : Bool := match u with
  | .none => eqV .non x
  | .bool b => eqV (.bl b) x
  | .int i _ => eqV (.int i) x
  | .str z _ => eqV (.str z) x
  | _ => false
theorem eqU_of {x y : V} {u : Value} (r : RelV y u) (f : flatV y = true) : eqU x u = eqV y x := by
  cases y with
  | non => cases r; rfl
  | bl b => cases r; rfl
  | int i => obtain ⟨t, rfl⟩ := r; rfl
  | str z => obtain ⟨t, rfl⟩ := r; rfl
  | _ => exact absurd (show false = true from f) Bool.false_ne_true
theorem any_eqU {x : V} : ∀ {xs : List V} {us : List Value}, Vals xs us → xs.all flatV = true → us.any (eqU x) = xs.any fun y => eqV y x
  | _, _, .nil, _ => rfl
  | y :: xs, u :: us, .cons r t, f => by
    rw [List.all_cons, Bool.and_eq_true] at f
    rw [List.any_cons, List.any_cons, eqU_of r f.1, any_eqU t f.2]
theorem mem_eqAt {A : Around} {s : Shared} {x : V} {v : Value} (rx : RelV x v) (fx : flatV x = true) : ∀ {xs : List V} {us : List Value}, Vals xs us → xs.all flatV = true → ∀ u ∈ us, SeqAt.EqAt A s u v (eqU x u)
  | _, _, .nil, _ => fun u hu => by cases hu
  | y :: xs, u :: us, .cons r t, f => fun u' hu => by
    rw [List.all_cons, Bool.and_eq_true] at f
    rcases List.mem_cons.mp hu with rfl | hu
    · rw [eqU_of r f.1]; exact eqAt_V r rx f.1 fx
    · exact mem_eqAt rx fx t f.2 u' hu
def inV (x : V) (xs : List V) : Bool := xs.any fun y => eqV y x
/-- x in a list or tuple of flat items -/
def rIn (K : PySem.W.Frag) (neg : Bool) : R2 := fun x y H Q => ∃ p xs, y = .ref p ∧ (SqL K H p xs ∨ SqT K H p xs) ∧ flatV x = true ∧ xs.all flatV = true ∧ Q (.bl (if neg then !inV x xs else inV x xs)) H
theorem op_in_seq : OpR X (compareOp .In) (rIn X.K false) := by
  intro pins s σ H x y v u Q I rx ry h
  obtain ⟨p, xs, rfl, hq, fx, fs, q⟩ := h
  cases ry
  rcases hq with hq | hq
  · obtain ⟨its, r, pl, hz⟩ := I.list hq
    refine SeqAt.in_listAt (eqU x) pl.isList (fun w hw => mem_eqAt rx fx r fs w (by simpa using hw)) ⟨.bl _, H, I, rfl, ?_⟩
    rw [show its.toArray.any (eqU x) = its.any (eqU x) by simp, any_eqU r fs]
    exact q
  · obtain ⟨its, r, pl, hz⟩ := I.tuple hq
    refine SeqAt.in_tupleAt (eqU x) pl (fun w hw => mem_eqAt rx fx r fs w (by simpa using hw)) ⟨.bl _, H, I, rfl, ?_⟩
    rw [show its.toArray.any (eqU x) = its.any (eqU x) by simp, any_eqU r fs]
    exact q
/-! ### len, list(x), tuple(x) of any list or tuple that is read -/
theorem call_len_seq : CallR X (.builtin "len") (fun xs H Q => ∃ p ys, xs = [.ref p] ∧ (SqL X.K H p ys ∨ SqT X.K H p ys) ∧ Q (.int ys.length) H) := by
  intro pins s σ H xs us Q I r h
  obtain ⟨p, ys, rfl, hq, q⟩ := h
  obtain ⟨u, rfl, rx⟩ := vals1 r
  cases rx
  have hn := line63
  rcases hq with hq | hq
  · obtain ⟨its, r', pl, hz⟩ := I.list hq
    have hlen := r'.length
    exact Calls.call_len_list pl.isList (by simp only [List.size_toArray] <;> omega) ⟨.int ys.length, H, I.tok _, ⟨s.toks + 1, by rw [List.size_toArray, hlen]⟩, q⟩
  · obtain ⟨its, r', pl, hz⟩ := I.tuple hq
    have hlen := r'.length
    exact len_tuple pl (by simp only [List.size_toArray] <;> omega) ⟨.int ys.length, H, I.tok _, ⟨s.toks + 1, by rw [List.size_toArray, hlen]⟩, q⟩
theorem call_list_of : CallR X (.type "list") (fun xs H Q => ∃ p ys, xs = [.ref p] ∧ (SqL X.K H p ys ∨ SqT X.K H p ys) ∧ ∀ l, H l = none → Q (.ref l) (upd H l (.lst ys))) := by
  intro pins s σ H xs us Q I r h
  obtain ⟨p, ys, rfl, hq, q⟩ := h
  obtain ⟨u, rfl, rx⟩ := vals1 r
  cases rx
  have fin : ∀ (its : List Value), Vals ys its → ys.length ≤ sizeLine → ∀ (h' : Heap) (c' : Nat), (∀ b o', s.heap.get? b = some o' → h'.get? b = some o') →
      h'.get? s.heap.objs.size = some { cls := .type "list", dict := none, data := .seq its.toArray c', slots := #[] } → EP X pins σ Q (.ref s.heap.objs.size) { s with heap := h' } := fun its r' hz h' c' kp e =>
    ⟨.ref s.heap.objs.size, _, I.laid (t' := s.toks) kp (Nat.le_refl _) (show ObjOk X.prog X.w _ h' _ (.lst ys) from ⟨hz, its, c', r', e⟩), rfl, q _ (I.hok.fresh (Nat.le_refl _))⟩
  rcases hq with hq | hq
  · obtain ⟨its, r', pl, hz⟩ := I.list hq
    have hlen := r'.length
    obtain ⟨o, ho, hc, n, hd⟩ := pl.isList
    exact call_list_seq p (.inl rfl) ho hc hd (fun h' c' kp e => fin its r' hz h' c' kp e) (by simp only [List.size_toArray] <;> omega)
  · obtain ⟨its, r', pl, hz⟩ := I.tuple hq
    have hlen := r'.length
    obtain ⟨o, ho, hc, n, hd⟩ := pl
    exact call_list_seq p (.inr rfl) ho hc hd (fun h' c' kp e => fin its r' hz h' c' kp e) (by simp only [List.size_toArray] <;> omega)
theorem call_tuple_of : CallR X (.type "tuple") (fun xs H Q => ∃ p ys, xs = [.ref p] ∧ ((SqL X.K H p ys ∧ ∀ l, H l = none → Q (.ref l) (upd H l (.tup ys))) ∨ (SqT X.K H p ys ∧ Q (.ref p) H))) := by
  intro pins s σ H xs us Q I r h
  obtain ⟨p, ys, rfl, h⟩ := h
  obtain ⟨u, rfl, rx⟩ := vals1 r
  cases rx
  rcases h with ⟨hq, q⟩ | ⟨hq, q⟩
  · obtain ⟨its, r', pl, hz⟩ := I.list hq
    have hlen := r'.length
    refine call_tuple_list pl.isList (fun h' kp => ?_) (by simp only [List.size_toArray] <;> omega)
    have I1 : Inv X pins σ H { s with heap := h' } := I.kept (t' := s.toks) kp
    have I2 : Inv X pins σ (upd H h'.objs.size (.tup ys)) { s with heap := h'.push { cls := .type "tuple", data := .seq its.toArray } } :=
      I1.laid (t' := s.toks) (fun b o e => Heap.get?_push_of_some _ e) (Nat.le_refl _) (show ObjOk X.prog X.w _ _ _ (.tup ys) from ⟨hz, its, r', IsTup.new _ _⟩)
    exact ⟨.ref h'.objs.size, _, I2, rfl, q _ (I1.hok.fresh (Nat.le_refl _))⟩
  · obtain ⟨its, r', pl, hz⟩ := I.tuple hq
    exact call_tuple_same pl ⟨.ref p, H, I, rfl, q⟩

/-! ### the call of a builtin's method: o.m(..) -/
/-- the value is of that builtin type -/
def tyV (K : PySem.W.Frag) (T : String) (x : V) (H : Hp) : Prop := match x with
  | .str _ => T = "str"
  | .int _ => T = "int"
  | .ref p => (T = "list" ∧ ∃ xs, SqL K H p xs) ∨ (T = "tuple" ∧ ∃ o, K.lookup p = some o ∧ o.cls = .type "tuple" ∧ o.dict = none) ∨
      (T = "dict" ∧ ((∃ kvs, H p = some (.dK kvs)) ∨ ∃ kvs, H p = some (.dT kvs))) ∨ (T = "set" ∧ ∃ S n, H p = some (.set S n))
  | _ => False
theorem tyV_is {pins : List (Addr × Obj)} {σ : St} {H : Hp} {s : Shared} {T : String} {x : V} {v : Value} (I : Inv X pins σ H s) (r : RelV x v) (ty : tyV X.K T x H) :
    s.TypeIs v T ∧ ∀ a, v = .ref a → ∃ ob, s.heap.get? a = some ob ∧ ob.dict = none := by
  cases x with
  | str z =>
    obtain ⟨t, rfl⟩ := r
    cases (show T = "str" from ty)
    exact ⟨typeIs_str s z t, fun _ e => nomatch e⟩
  | int i =>
    obtain ⟨t, rfl⟩ := r
    cases (show T = "int" from ty)
    exact ⟨typeIs_int s i t, fun _ e => nomatch e⟩
  | ref p =>
    cases r
    rcases ty with ⟨rfl, xs, hq⟩ | ⟨rfl, o, hk, hc, hd⟩ | ⟨rfl, hk⟩ | ⟨rfl, S, n, hk⟩
    · obtain ⟨its, _, pl, _⟩ := I.list hq
      refine ⟨pl.isList.typeIs, fun a e => ?_⟩
      cases e
      obtain ⟨o, n, e, c, hd, _⟩ := pl
      exact ⟨o, e, hd⟩
    · refine ⟨⟨o, I.kIn p o hk, hc⟩, fun a e => ?_⟩
      cases e
      exact ⟨o, I.kIn _ o hk, hd⟩
    · have z : ∃ o, s.heap.get? p = some o ∧ o.ExactDict := by
        rcases hk with ⟨kvs, hk⟩ | ⟨kvs, hk⟩
        · obtain ⟨_, _, _, _, o, _, _, e, ex, _⟩ := I.hok p _ hk
          exact ⟨o, e, ex⟩
        · obtain ⟨_, _, _, _, o, _, _, e, ex, _⟩ := I.hok p _ hk
          exact ⟨o, e, ex⟩
      obtain ⟨o, e, ex⟩ := z
      refine ⟨⟨o, e, ex.1⟩, fun a e2 => ?_⟩
      cases e2
      exact ⟨o, e, ex.2.1⟩
    · obtain ⟨o, _, _, _, e, ex, _⟩ := I.hok p _ hk
      refine ⟨⟨o, e, ex.1⟩, fun a e2 => ?_⟩
      cases e2
      exact ⟨o, e, ex.2.1⟩
  | _ => exact False.elim ty
def tBM0 (K : PySem.W.Frag) (T : String) (r : V → List V → Hp → VK → Prop) (to : TE) : TE := fun σ H Q => to σ H fun x H1 => tyV K T x H1 ∧ r x [] H1 Q
def tBM (K : PySem.W.Frag) (T : String) (r : V → List V → Hp → VK → Prop) (to : TE) (t : TA) : TE := fun σ H Q => to σ H fun x H1 => tyV K T x H1 ∧ t σ H1 fun xs H2 => r x xs H2 Q
variable {o e : Expr} {es : List Expr} {to : TE} {t : TA} {name : Str} {apos cpos : Pos} {T id : String} {r : V → List V → Hp → VK → Prop}
theorem pe_bm0 (pa : PlainAttrs T) (slot : Slot T name id) (hty : typeOf (.builtin id) = pure (.type "method_descriptor")) (hm : MtR X id r) (ho : PE X o to)
    (hbase : attributeBase o name X.env (eval o X.env) = eval o X.env := by rfl) (hline : (apos.endLine == cpos.line) = true := by rfl) : PE X (.Call (.Attribute o name apos) [] [] cpos) (tBM0 X.K T r to) := by
  intro pins s σ H Q I h
  refine wpAny_Call_method0_late hbase hline (thn (ho pins s σ H _ I h) fun v s1 ⟨x, H1, I1, r1, ty, q1⟩ => ?_)
  obtain ⟨h1, h2⟩ := tyV_is I1 r1 ty
  exact ⟨T, id, pa, slot, hty, h1, h2, Calls.callWith_builtin rfl (PySem.evalArgs_none (hm pins s1 σ H1 x [] v [] Q I1 r1 .nil q1))⟩
theorem pe_bm (pa : PlainAttrs T) (slot : Slot T name id) (hty : typeOf (.builtin id) = pure (.type "method_descriptor")) (hm : MtR X id r) (ho : PE X o to) (ha : PA X (e :: es) t)
    (hbase : attributeBase o name X.env (eval o X.env) = eval o X.env := by rfl)
    (hfew : ((backTo cpos (starEach (e :: es) X.env)).all (fun x => !x.1) && (backToKw cpos (keywordEach [] X.env)).all (fun x => x.1.isSome)
      && decide ((e :: es).length + ([] : List Keyword).length + (if ([] : List Keyword).isEmpty then 0 else 1) < 30)) = true := by rfl)
    (hline : (apos.endLine == cpos.line) = true := by rfl) (hs : starEach (e :: es) X.env = (false, eval e X.env) :: starEach es X.env := by rfl) (hplain : (backTo cpos (starEach es X.env)).any (·.1) = false := by rfl) :
    PE X (.Call (.Attribute o name apos) (e :: es) [] cpos) (tBM X.K T r to t) := by
  intro pins s σ H Q I h
  refine wpAny_Call_method_late hbase hfew hline rfl (thn (ho pins s σ H _ I h) fun v s1 ⟨x, H1, I1, r1, ty, q1⟩ => ?_)
  obtain ⟨h1, h2⟩ := tyV_is I1 r1 ty
  refine ⟨T, id, pa, slot, hty, h1, h2, ?_⟩
  have hA := ha cpos pins s1 σ H1 _ I1 q1
  rw [hs] at hA ⊢
  refine Calls.callWith_builtin (by show (false || (backTo cpos (starEach es X.env)).any (·.1)) = false; rw [hplain] <;> rfl) (Calls.evalArgs_plain ?_)
  exact thn hA fun us s2 ⟨vs, H2, I2, r2, q2⟩ => hm pins s2 σ H2 x vs v us Q I2 r1 r2 q2
/- xs.append(e), list.index on a module's tuple .. are MtR facts of 06m -/
end
end L2

namespace L2
open PySem PySem.Spec PyProof.Rows

def MtM (X : Cx) (id : String) (r : V → List V → Hp → VK → Prop) : Prop :=
  ∀ (pins : List (Addr × Obj)) (s : Shared) (σ : St) (H : Hp) (x : V) (xs : List V) (v : Value) (us : List Value) (Q : VK), Inv X pins σ H s → RelV x v → Vals xs us → r x xs H Q →
    wpAny (model X.prog X.w) X.A (call (.builtin id) (v :: us)) (EP X pins σ Q) X.xe s

/-! ### lists of values -/
theorem Vals.one : ∀ {x : V} {us : List Value}, Vals [x] us → ∃ u, us = [u] ∧ RelV x u
  | _, _, .cons r .nil => ⟨_, rfl, r⟩
theorem Vals.two : ∀ {x y : V} {us : List Value}, Vals [x, y] us → ∃ u v, us = [u, v] ∧ RelV x u ∧ RelV y v
  | _, _, _, .cons r (.cons q .nil) => ⟨_, _, rfl, r, q⟩
theorem Vals.zero : ∀ {us : List Value}, Vals [] us → us = []
  | _, .nil => rfl
theorem Vals.reverse {xs : List V} {us : List Value} (h : Vals xs us) : Vals xs.reverse us.reverse := by
  induction h with
  | nil => exact .nil
  | cons r t ih => rw [List.reverse_cons, List.reverse_cons]; exact Vals.append ih (.cons r .nil)
section
variable {X : Cx} {pins : List (Addr × Obj)} {σ : St} {H : Hp} {s : Shared} {l b : Addr} {xs ys zs : List V}

/-! ### the two steps: a tracked list is rewritten, a new list is laid -/
theorem Inv.lset {its its' : List Value} {n : Nat} {f : Array Value → Array Value} {t' : Nat} (I : Inv X pins σ H s) (hH : H l = some (.lst xs))
    (e : s.heap.get? l = some { cls := .type "list", data := .seq its.toArray n }) (hf : f its.toArray = its'.toArray) (hv : Vals ys its') (hz : ys.length ≤ sizeLine) :
    Inv X pins σ (upd H l (.lst ys)) { s with heap := s.heap.update l (Obj.mapSeq f), toks := t' } := by
  have q := PySem.IsL.update e f
  rw [hf] at q
  refine I.write (x := l) (e := l) (by rw [hH]; exact trivial) (.inl rfl) (fun b' u hb hu => (Heap.get?_update_other s.heap (Obj.mapSeq f) (Ne.symm hb)).trans hu) ⟨_, q⟩ ?_
  exact ⟨hz, its', _, hv, q⟩
theorem Inv.lnew {its : List Value} {t' : Nat} (I : Inv X pins σ H s) (hv : Vals ys its) (hz : ys.length ≤ sizeLine) :
    Inv X pins σ (upd H s.heap.objs.size (.lst ys)) { s with heap := s.heap.push { cls := .type "list", data := .seq its.toArray }, toks := t' } :=
  I.laid (fun _ _ q => Heap.get?_push_of_some _ q) (Nat.le_refl _) ⟨hz, its, 0, hv, Heap.get?_push_size _ rfl⟩
theorem Inv.fresh (I : Inv X pins σ H s) : H s.heap.objs.size = none := I.hok.fresh (Nat.le_refl _)
theorem Inv.lstM (I : Inv X pins σ H s) (hH : H l = some (.lst xs)) : xs.length ≤ sizeLine ∧ ∃ (its : List Value) (n : Nat), Vals xs its ∧ xs.length = its.length ∧ s.heap.get? l = some { cls := .type "list", data := .seq its.toArray n } := by
  obtain ⟨z, its, n, r, e⟩ := I.hok l _ hH
  exact ⟨z, its, n, r, r.length, e⟩

end

section
variable {X : Cx}

/-! ### methods -/
def rAppend : V → List V → Hp → VK → Prop := fun x vs H Q => ∃ l xs y, x = .ref l ∧ vs = [y] ∧ H l = some (.lst xs) ∧ xs.length < sizeLine ∧ Q .non (upd H l (.lst (xs ++ [y])))
theorem mt_append : MtM X "list.append" rAppend := by
  intro pins s σ H x vs v us Q I rx rv h
  obtain ⟨l, xs, y, rfl, rfl, hH, hz, q⟩ := h
  cases rx
  obtain ⟨u, rfl, ru⟩ := rv.one
  obtain ⟨z, its, n, r, hl, e⟩ := I.lstM hH
  refine call_meets F.slot_list_append ⟨_, e, rfl⟩ F.entry_list_append (F.args_list_append_2 _ _) (PySem.list_append l its.toArray n u (by rw [List.size_toArray]; omega)) ⟨e, ?_⟩
  refine ⟨.non, _, I.lset (its' := its ++ [u]) hH e (by simp) (r.append (.cons ru .nil)) ?_, rfl, q⟩
  rw [List.length_append, List.length_singleton]
  omega

def rReverse : V → List V → Hp → VK → Prop := fun x vs H Q => ∃ l xs, x = .ref l ∧ vs = [] ∧ H l = some (.lst xs) ∧ Q .non (upd H l (.lst xs.reverse))
theorem mt_reverse : MtM X "list.reverse" rReverse := by
  intro pins s σ H x vs v us Q I rx rv h
  obtain ⟨l, xs, rfl, rfl, hH, q⟩ := h
  cases rx
  have hus := rv.zero
  subst hus
  obtain ⟨z, its, n, r, hl, e⟩ := I.lstM hH
  refine call_meets F.slot_list_reverse ⟨_, e, rfl⟩ F.entry_list_reverse (F.args_list_reverse_1 _) (AutoSeq1.list_reverse_list_0 l its.toArray n (by rw [List.size_toArray]; omega)) ⟨e, ?_⟩
  refine ⟨.non, _, I.lset (its' := its.reverse) hH e (by simp) r.reverse ?_, rfl, q⟩
  rw [List.length_reverse]
  omega

/-! ### list + list, list += list, list * int -/
def rCat : R2 := fun x y H Q => ∃ l b xs zs, x = .ref l ∧ y = .ref b ∧ H l = some (.lst xs) ∧ H b = some (.lst zs) ∧ xs.length + zs.length ≤ sizeLine ∧ ∀ p, H p = none → Q (.ref p) (upd H p (.lst (xs ++ zs)))
theorem op_cat : OpR X (binaryOp .Add) rCat := by
  intro pins s σ H x y v u Q I rx ry h
  obtain ⟨l, b, xs, zs, rfl, rfl, hH, hB, hz, q⟩ := h
  cases rx
  cases ry
  obtain ⟨z, its, n, r, hl, e⟩ := I.lstM hH
  obtain ⟨z2, its2, n2, r2, hl2, e2⟩ := I.lstM hB
  refine PySem.P.add_list e e2 ?_ (by rw [List.size_toArray, List.size_toArray]; omega)
  have ea : its.toArray ++ its2.toArray = (its ++ its2).toArray := by simp
  rw [ea]
  exact ⟨.ref _, _, I.lnew (t' := s.toks) (r.append r2) (by rw [List.length_append]; omega), rfl, q _ I.fresh⟩
/-! ### del xs[i] -/
end

/-! ### xs[a:b] = ys -/
section
variable {prog : Program} {w : World} {A : Around} {E : Value → Shared → Prop} {s : Shared}
end

section
variable {X : Cx}
end
end L2

namespace L2
open PySem PySem.Spec PyProof.Rows

/-! ### lists of pairs as tables -/
section
variable {κ : Type} [DecidableEq κ]
def valV (kvs : List (κ × V)) (k : κ) : Option V := (kvs.find? fun kv => decide (kv.1 = k)).map (·.2)
/-- in its place, or at the end -/
def putK (kvs : List (κ × V)) (k : κ) (v : V) : List (κ × V) :=
  if (kvs.any fun kv => decide (kv.1 = k)) = true then kvs.map (fun kv => if kv.1 = k then (kv.1, v) else kv) else kvs ++ [(k, v)]
theorem valV_pos {p : κ × V} {r : List (κ × V)} {k : κ} (e : p.1 = k) : valV (p :: r) k = some p.2 := by simp [valV, List.find?_cons, e]
theorem valV_neg {p : κ × V} {r : List (κ × V)} {k : κ} (e : ¬ p.1 = k) : valV (p :: r) k = valV r k := by simp [valV, List.find?_cons, e]
theorem valV_any (k : κ) : ∀ kvs : List (κ × V), (kvs.any fun kv => decide (kv.1 = k)) = (valV kvs k).isSome
  | [] => rfl
  | p :: r => by
    rw [List.any_cons]
    by_cases e : p.1 = k
    · simp only [valV_pos e, decide_eq_true e, Bool.true_or, Option.isSome_some]
    · rw [valV_neg e, decide_eq_false e, Bool.false_or]; exact valV_any k r
theorem length_putK (kvs : List (κ × V)) (k : κ) (v : V) : (putK kvs k v).length ≤ kvs.length + 1 := by
  unfold putK
  split
  · rw [List.length_map]; omega
  · rw [List.length_append, List.length_cons, List.length_nil]; omega
theorem putK_new {kvs : List (κ × V)} {k : κ} (v : V) (h : valV kvs k = none) : putK kvs k v = kvs ++ [(k, v)] := by
  unfold putK
  rw [valV_any, h]
  exact if_neg (by decide)

theorem RelO.isSome_eq {o : Option V} {u : Option Value} (r : RelO o u) : o.isSome = u.isSome := by
  cases o with
  | none => cases u with
    | none => rfl
    | some _ => exact (show False from r).elim
  | some _ => cases u with
    | none => exact (show False from r).elim
    | some _ => rfl
theorem RelO.getD {o : Option V} {u : Option Value} {d : V} {d' : Value} (r : RelO o u) (rd : RelV d d') : RelV (o.getD d) (u.getD d') := by
  cases o with
  | none => cases u with
    | none => exact rd
    | some _ => exact (show False from r).elim
  | some _ => cases u with
    | none => exact (show False from r).elim
    | some _ => exact r

/-- raw tables of the same keys -/
theorem KV.val {kvs : List (κ × V)} {vs : List (κ × Value)} (r : KV kvs vs) (k : κ) : RelO (valV kvs k) (valueAt vs k) := by
  unfold KV at r
  induction r with
  | nil => exact True.intro
  | @cons p q ps qs h t ih =>
    obtain ⟨h1, h2⟩ := h
    by_cases e : p.1 = k
    · have e' : q.1 = k := h1.symm.trans e
      have b : valueAt (q :: qs) k = some q.2 := by simp [valueAt, List.find?_cons, e']
      rw [valV_pos e, b]; exact h2
    · have e' : ¬ q.1 = k := fun z => e (h1.trans z)
      have b : valueAt (q :: qs) k = valueAt qs k := by simp [valueAt, List.find?_cons, e']
      rw [valV_neg e, b]; exact ih
theorem KV.any {kvs : List (κ × V)} {vs : List (κ × Value)} (r : KV kvs vs) (k : κ) : (kvs.any fun kv => decide (kv.1 = k)) = vs.any fun kv => decide (kv.1 = k) := by
  unfold KV at r
  induction r with
  | nil => rfl
  | cons h t ih => rw [List.any_cons, List.any_cons, ih, h.1]
theorem KV.repl {kvs : List (κ × V)} {vs : List (κ × Value)} (r : KV kvs vs) (k : κ) {y : V} {u : Value} (ry : RelV y u) :
    KV (kvs.map fun kv => if kv.1 = k then (kv.1, y) else kv) (vs.map fun kv => if kv.1 = k then (kv.1, u) else kv) := by
  unfold KV at r ⊢
  induction r with
  | nil => exact .nil
  | @cons p q ps qs h t ih =>
    rw [List.map_cons, List.map_cons]
    refine .cons ?_ ih
    obtain ⟨h1, h2⟩ := h
    by_cases e : p.1 = k
    · rw [if_pos e, if_pos (h1.symm.trans e)]; exact ⟨h1, ry⟩
    · rw [if_neg e, if_neg (fun z => e (h1.trans z))]; exact ⟨h1, h2⟩
theorem KV.put {kvs : List (κ × V)} {vs : List (κ × Value)} (r : KV kvs vs) (k : κ) {y : V} {u : Value} (ry : RelV y u) : KV (putK kvs k y) (stored vs k u) := by
  unfold putK stored
  rw [r.any k]
  by_cases e : (vs.any fun kv => decide (kv.1 = k)) = true
  · rw [if_pos e, if_pos e]; exact r.repl k ry
  · rw [if_neg e, if_neg e]; exact Paired.snoc r ⟨rfl, ry⟩
theorem KV.length {kvs : List (κ × V)} {vs : List (κ × Value)} (r : KV kvs vs) : kvs.length = vs.length := Paired.length r
end


/-! ### a tracked dict, its keys ints and texts or tuples of these -/
theorem kV_is {P : Program} {w : World} {k : Key} {u : Value} (r : RelV (kV k) u) : (mixKind P w).is k u = true := by
  cases k with
  | inl i => obtain ⟨t, e⟩ := (show ∃ t, u = Value.int i t from r); subst e; exact mixKind_int P w i t
  | inr x => obtain ⟨t, e⟩ := (show ∃ t, u = Value.str x t from r); subst e; exact mixKind_str P w x t
theorem items_are {P : Program} {w : World} : ∀ {ks : List Key} {us : List Value}, Vals (ks.map kV) us → ItemsAre (mixKind P w) ks us
  | [], _, r => by rw [List.map_nil] at r; cases r; exact .nil
  | k :: ks, _, r => by
    rw [List.map_cons] at r
    cases r with
    | cons h t => exact .cons (kV_is h) (items_are t)

/-- raw entries of a dict with tuple keys -/
abbrev KT (H : Hp) : List (List Key × V) → List (List Key × Addr × Value) → Prop := Paired fun p q => p.1 = q.1 ∧ H q.2.1 = some (.tup (p.1.map kV)) ∧ RelV p.2 q.2.2
theorem KT.val {H : Hp} {kvs : List (List Key × V)} {xs : List (List Key × Addr × Value)} (r : KT H kvs xs) (k : List Key) : RelO (valV kvs k) ((atKey xs k).map (·.2)) := by
  induction r with
  | nil => exact True.intro
  | @cons p q ps qs h t ih =>
    obtain ⟨h1, _, h2⟩ := h
    by_cases e : p.1 = k
    · have e' : q.1 = k := h1.symm.trans e
      have b : atKey (q :: qs) k = some q.2 := by simp [atKey, List.find?_cons, e']
      rw [valV_pos e, b]; exact h2
    · have e' : ¬ q.1 = k := fun z => e (h1.trans z)
      have b : atKey (q :: qs) k = atKey qs k := by simp [atKey, List.find?_cons, e']
      rw [valV_neg e, b]; exact ih
theorem KT.repl {H : Hp} {kvs : List (List Key × V)} {xs : List (List Key × Addr × Value)} (r : KT H kvs xs) (k : List Key) {y : V} {u : Value} (ry : RelV y u) :
    KT H (kvs.map fun kv => if kv.1 = k then (kv.1, y) else kv) (xs.map (putAt k u)) := by
  induction r with
  | nil => exact .nil
  | @cons p q ps qs h t ih =>
    rw [List.map_cons, List.map_cons]
    refine .cons ?_ ih
    obtain ⟨h1, h2, h3⟩ := h
    unfold putAt
    by_cases e : p.1 = k
    · rw [if_pos e, if_pos (h1.symm.trans e)]; exact ⟨h1, h2, ry⟩
    · rw [if_neg e, if_neg (fun z => e (h1.trans z))]; exact ⟨h1, h2, h3⟩
theorem KT.put {H : Hp} {kvs : List (List Key × V)} {xs : List (List Key × Addr × Value)} (r : KT H kvs xs) (k : List Key) {b : Addr} {y : V} {u : Value} (hb : H b = some (.tup (k.map kV))) (ry : RelV y u) :
    KT H (putK kvs k y) (storedH xs k b u) := by
  have e : (kvs.any fun kv => decide (kv.1 = k)) = (atKey xs k).isSome := by
    rw [valV_any, (r.val k).isSome_eq, Option.isSome_map]
  unfold putK storedH
  rw [e]
  by_cases q : (atKey xs k).isSome = true
  · rw [if_pos q, if_pos q]; exact r.repl k ry
  · rw [if_neg q, if_neg q]; exact Paired.snoc r ⟨rfl, hb, ry⟩
theorem KT.keeps {H H' : Hp} {kvs : List (List Key × V)} {xs : List (List Key × Addr × Value)} (r : KT H kvs xs) (ht : ∀ b ys, H b = some (.tup ys) → H' b = some (.tup ys)) : KT H' kvs xs :=
  Paired.mapP r fun _ _ z => ⟨z.1, ht _ _ z.2.1, z.2.2⟩

section
variable {P : Program} {w : World} {H : Hp} {h : Heap} {a : Addr}
theorem rd_of {u : HO} (ok : HOk P w H h) (e : Rd H a u) : ObjOk P w H h a u := e.ok ok
theorem dk_rd {kvs : List (Key × V)} (ok : HOk P w H h) (e : Rd H a (.dK kvs)) : kvs.length ≤ sizeLine ∧ (a == sysModules) = false ∧ ∃ vs, KV kvs vs ∧ h.DictOf (mixKind P w) a vs :=
  show ObjOk P w H h a (.dK kvs) from rd_of ok e
theorem dk_of {kvs : List (Key × V)} (ok : HOk P w H h) (e : H a = some (.dK kvs)) : kvs.length ≤ sizeLine ∧ (a == sysModules) = false ∧ ∃ vs, KV kvs vs ∧ h.DictOf (mixKind P w) a vs := dk_rd ok (.inl e)
/-- a tracked tuple of ints and texts is a key -/
theorem key_of {ks : List Key} (ok : HOk P w H h) (e : H a = some (.tup (ks.map kV))) : (tupleKind (mixKind P w)).is h ks a := by
  obtain ⟨_, its, r, o, h1, h2, n, h3⟩ := (show ObjOk P w H h a (.tup (ks.map kV)) from ok a _ e)
  exact ⟨o, its.toArray, n, h1, h2, h3, by simpa using items_are r⟩
theorem dt_rd {kvs : List (List Key × V)} (ok : HOk P w H h) (e : Rd H a (.dT kvs)) : kvs.length ≤ sizeLine ∧ (a == sysModules) = false ∧
    ∃ xs, KT H kvs xs ∧ h.DictOfH (tupleKind (mixKind P w)) a xs := by
  obtain ⟨z, y, xs, r, o, es, ep, h1, h2, h3, h4, h5⟩ := (show ObjOk P w H h a (.dT kvs) from rd_of ok e)
  refine ⟨z, y, xs, r, o, es, ep, h1, h2, h3, h4, fun x hx => ?_, h5⟩
  have all : ∀ {l : List (List Key × V)} {m : List (List Key × Addr × Value)}, KT H l m → ∀ x ∈ m, (tupleKind (mixKind P w)).is h x.1 x.2.1 := by
    intro l m q
    induction q with
    | nil => intro x hx; exact nomatch hx
    | @cons p q ps qs hq t ih =>
      intro x hx
      rcases List.mem_cons.mp hx with e | hx
      · subst e
        exact key_of ok (by rw [← hq.1]; exact hq.2.1)
      · exact ih x hx
  exact all r x hx
theorem dt_of {kvs : List (List Key × V)} (ok : HOk P w H h) (e : H a = some (.dT kvs)) : kvs.length ≤ sizeLine ∧ (a == sysModules) = false ∧
    ∃ xs, KT H kvs xs ∧ h.DictOfH (tupleKind (mixKind P w)) a xs := dt_rd ok (.inl e)
end

/-- what the dict at a holds at the key y -/
def DGet (H : Hp) (a : Addr) (y : V) (r : Option V) : Prop :=
  (∃ kvs k, Rd H a (.dK kvs) ∧ y = kV k ∧ r = valV kvs k) ∨ ∃ kvs k b, Rd H a (.dT kvs) ∧ y = .ref b ∧ H b = some (.tup (k.map kV)) ∧ r = valV kvs k
/-- the heap behind a[y] = v -/
def DPut (H : Hp) (a : Addr) (y v : V) (H' : Hp) : Prop :=
  (∃ kvs k, H a = some (.dK kvs) ∧ y = kV k ∧ kvs.length < sizeLine ∧ H' = upd H a (.dK (putK kvs k v))) ∨
  ∃ kvs k b, H a = some (.dT kvs) ∧ y = .ref b ∧ H b = some (.tup (k.map kV)) ∧ kvs.length < sizeLine ∧ H' = upd H a (.dT (putK kvs k v))
theorem DGet.k {H : Hp} {a : Addr} {kvs : List (Key × V)} {k : Key} (e : H a = some (.dK kvs)) : DGet H a (kV k) (valV kvs k) := .inl ⟨kvs, k, .inl e, rfl, rfl⟩
theorem DGet.t {H : Hp} {a b : Addr} {kvs : List (List Key × V)} {k : List Key} (e : H a = some (.dT kvs)) (eb : H b = some (.tup (k.map kV))) : DGet H a (.ref b) (valV kvs k) := .inr ⟨kvs, k, b, .inl e, rfl, eb, rfl⟩
theorem DPut.k {H : Hp} {a : Addr} {kvs : List (Key × V)} {k : Key} {v : V} (e : H a = some (.dK kvs)) (hl : kvs.length < sizeLine) : DPut H a (kV k) v (upd H a (.dK (putK kvs k v))) := .inl ⟨kvs, k, e, rfl, hl, rfl⟩
theorem DPut.t {H : Hp} {a b : Addr} {kvs : List (List Key × V)} {k : List Key} {v : V} (e : H a = some (.dT kvs)) (eb : H b = some (.tup (k.map kV))) (hl : kvs.length < sizeLine) :
    DPut H a (.ref b) v (upd H a (.dT (putK kvs k v))) := .inr ⟨kvs, k, b, e, rfl, eb, hl, rfl⟩


section
variable {X : Cx} {pins : List (Addr × Obj)} {σ : St} {H : Hp} {s : Shared} {a : Addr} {y v : V} {u r : Value} {o : Option V} {A : Around} {E : Value → Shared → Prop}

theorem Inv.big (I : Inv X pins σ H s) : sysModules < s.heap.objs.size := by
  have h : mainGlobals < s.heap.objs.size := (I.mod.glob.keeps I.bk).lt
  exact Nat.lt_trans (by decide) h

/-- d[y], there -/
theorem d_getItem {Q : Value → Shared → Prop} (hu : A.units + 1 < cLine) (I : Inv X pins σ H s) (g : DGet H a y (some v)) (ry : RelV y u) (h : ∀ w' s', Inv X pins σ H s' → RelV v w' → Q w' s') :
    wpAny (model X.prog X.w) A (getItem (.ref a) u) Q E s := by
  rcases g with ⟨kvs, k, e, ey, l⟩ | ⟨kvs, k, b, e, ey, eb, l⟩
  · subst ey
    obtain ⟨z, hd, vs, rel, dd⟩ := dk_rd I.hok e
    obtain ⟨w', hw, rw'⟩ := RelO.some_of (v := v) (o := valueAt vs k) (by rw [l]; exact rel.val k)
    exact wpAny_getItem_of (kV_is ry) dd.mapOf hw (h w' _ (I.tok _) rw')
  · subst ey
    cases (show u = Value.ref b from ry)
    obtain ⟨z, hd, xs, rel, dd⟩ := dt_rd I.hok e
    obtain ⟨w', hw, rw'⟩ := RelO.some_of (v := v) (o := (atKey xs k).map (·.2)) (by rw [l]; exact rel.val k)
    obtain ⟨p, hp, hp2⟩ := Option.map_eq_some_iff.mp hw
    refine wpAny_getItem_heap (tupleKind_room_in1 hu) (key_of I.hok eb) dd hp ?_
    rw [hp2]
    exact h w' _ (I.tok _) rw'
/-- a dict's object is replaced -/
theorem d_write {h' : Heap} {t' : Nat} {ob : HO} (I : Inv X pins σ H s) (mu : Mut (H a)) (hs : Heap.SameBut a s.heap h') (he : ∃ q, h'.get? a = some q) (new : ObjOk X.prog X.w (upd H a ob) h' a ob) :
    Inv X pins σ (upd H a ob) { s with heap := h', toks := t' } :=
  I.write (x := a) (e := a) mu (.inl rfl) (fun b q hb z => (hs.2 b hb).trans z) he new
theorem dk_new {P : Program} {w : World} {H' : Hp} {h' : Heap} {kvs : List (Key × V)} {vs : List (Key × Value)} (z : kvs.length ≤ sizeLine) (hd : (a == sysModules) = false) (rel : KV kvs vs) (dd : h'.DictOf (mixKind P w) a vs) :
    ObjOk P w H' h' a (.dK kvs) := ⟨z, hd, vs, rel, dd⟩
/-- d[y] = v -/
theorem d_setItem {H' : Hp} {Q : Unit → Shared → Prop} (hu : A.units + 1 < cLine) (I : Inv X pins σ H s) (g : DPut H a y v H') (ry : RelV y u) (rv : RelV v r) (h : ∀ s', Inv X pins σ H' s' → Q () s') :
    wpAny (model X.prog X.w) A (setItem (.ref a) u r) Q E s := by
  rcases g with ⟨kvs, k, e, ey, l, eH⟩ | ⟨kvs, k, b, e, ey, eb, l, eH⟩
  · subst ey eH
    obtain ⟨z, hd, vs, rel, dd⟩ := dk_of I.hok e
    have hz : vs.length ≤ sizeLine := by rw [← rel.length]; exact z
    have hl : (putK kvs k v).length ≤ sizeLine := by have := length_putK kvs k v; omega
    refine wpAny_setItem_pairs (hsz := hz) (kV_is ry) dd fun h' dd' hs => h _ ?_
    have he : ∃ q, h'.get? a = some q := let ⟨q, _, _, hq, _⟩ := dd'; ⟨q, hq⟩
    exact d_write I (by rw [e]; exact True.intro) hs he (dk_new hl hd (rel.put k rv) dd')
  · subst ey eH
    cases (show u = Value.ref b from ry)
    obtain ⟨z, hd, xs, rel, dd⟩ := dt_of I.hok e
    have hz : xs.length ≤ sizeLine := by rw [← Paired.length rel]; exact z
    have hl : (putK kvs k v).length ≤ sizeLine := by have := length_putK kvs k v; omega
    refine wpAny_setItem_heap (hsz := hz) (tupleKind_room_in1 hu) (key_of I.hok eb) dd fun h' dd' hs => h _ ?_
    obtain ⟨q, es, ep, hq, h2, h3, h4, _, h5⟩ := dd'
    refine d_write I (by rw [e]; exact True.intro) hs ⟨q, hq⟩ ⟨hl, hd, _, (rel.put k eb rv).keeps fun c ys ec => ?_, q, es, ep, hq, h2, h3, h4, h5⟩
    rw [upd_ne (ne_of ec e (fun z => nomatch z))]
    exact ec
end

section
variable {X : Cx} {pins : List (Addr × Obj)} {σ : St} {H : Hp} {s : Shared} {a : Addr} {kvs : List (Key × V)} {k : Key} {u : Value} {A : Around} {E : Value → Shared → Prop}
end


/-! ### readings and rules -/
/-- the element of a subscription, not a slice -/
def NoSl (i : Expr) : Prop := ∀ ov iv, subscripted i false ov iv = operate [ov, iv] (getItem ov iv)
theorem subD_of {prog : Program} {w : World} {A : Around} {E : Value → Shared → Prop} {s : Shared} {env : Env} {value slice : Expr} {pos : Pos} {T id : String} {Q : Value → Shared → Prop}
    (hl : typeLookup (.type T) "__getitem__" = pure (some (.builtin id))) (hs : NoSl slice)
    (h : wpAny (model prog w) A (eval value env) (fun o s₁ => wpAny (model prog w) A (eval slice env) (fun i s₂ => s₂.TypeIs o T ∧ wpAny (model prog w) A (getItem o i) Q E s₂) E s₁) E s) :
    wpAny (model prog w) A (eval (.Subscript value slice pos) env) Q E s := by
  refine Subscript_ (wpAny_mono h (fun o s₁ h₁ => wpAny_mono h₁ (fun i s₂ h₂ => ?_) fun _ _ x => x) fun _ _ x => x)
  obtain ⟨hT, h₂⟩ := h₂
  unfold subscriptTail
  refine wpAny_bind ?_
  rw [getitemInPython_of_ne hT.not_modules]
  refine wpAny_bind (wpAny_specialOf hT hl ?_)
  have fin : wpAny (model prog w) A (subscripted slice false o i) (fun r s₃ => wpAny (model prog w) A (letTemporaryGo value o r >>= fun _ => pure r) Q E s₃) E s₂ := by
    rw [hs o i]
    exact wpAny_operating (wpAny_mono h₂ (fun r s₃ h₃ => wpAny_bind (wpAny_letTemporaryGo (wpAny_pure h₃))) fun _ _ x => x)
  first
    | exact wpAny_pure (wpAny_bind fin)
    | exact wpAny_bind (wpAny_pure (wpAny_bind fin))
    | exact wpAny_bind fin

theorem dict_typeIs {X : Cx} {pins : List (Addr × Obj)} {σ : St} {H : Hp} {s : Shared} {a : Addr} {y : V} {o : Option V} (I : Inv X pins σ H s) (g : DGet H a y o) : s.TypeIs (.ref a) "dict" := by
  rcases g with ⟨kvs, k, e, _, _⟩ | ⟨kvs, k, b, e, _, _, _⟩
  · obtain ⟨_, _, vs, _, dd⟩ := dk_rd I.hok e
    exact dd.typeIs
  · obtain ⟨_, _, xs, _, dd⟩ := dt_rd I.hok e
    exact dd.typeIs
/-- d[y] -/
def tDGet (td ty : TE) : TE := fun σ H Q => td σ H fun x H1 => ty σ H1 fun y H2 => ∃ a v, x = .ref a ∧ DGet H2 a y (some v) ∧ Q v H2
/-- d[y] = v -/
def sDPut (td ty tv : TE) : TS := fun D σ H => tv σ H fun v H1 => td σ H1 fun x H2 => ty σ H2 fun y H3 => ∃ a H4, x = .ref a ∧ DPut H3 a y v H4 ∧ D.nx σ H4
section
variable {X : Cx} {o i e value : Expr} {pos pos' tpos : Pos} {td ty tv : TE}
theorem pe_dget (hu : X.A.units + 1 < cLine) (ho : PE X o td) (hi : PE X i ty) (hs : NoSl i) : PE X (.Subscript o i pos) (tDGet td ty) := by
  intro pins s σ H Q I h
  refine subD_of PySem.F.slot_dict_getitem.lookup hs (thn (ho pins s σ H _ I h) fun u s1 ⟨x, H1, I1, rx, q1⟩ => thn (hi pins s1 σ H1 _ I1 q1) fun iv s2 ⟨y, H2, I2, ry, a, v, ex, g, q2⟩ => ?_)
  subst ex
  obtain rfl : u = Value.ref a := rx
  exact ⟨dict_typeIs I2 g, d_getItem hu I2 g ry fun w' s3 I3 rw' => ⟨v, H2, I3, rw', q2⟩⟩
theorem ps_dput (hu : X.A.units + 1 < cLine) (ho : PE X o td) (hi : PE X i ty) (hv : PE X value tv) (hs : swapsWith value (some (.Subscript o i pos')) pos.line X.env = pure false) :
    PS X (.Assign [.Subscript o i pos'] value pos) (sDPut td ty tv) := by
  intro pins s σ H D I h
  refine wpAny_Assign_Subscript (thn (hv pins s σ H _ I h) fun r s1 ⟨v, H1, I1, rv, q1⟩ => thn (ho pins s1 σ H1 _ I1 q1) fun u s2 ⟨x, H2, I2, rx, q2⟩ => thn (hi pins s2 σ H2 _ I2 q2) fun iv s3 ⟨y, H3, I3, ry, a, H4, ex, g, q3⟩ => ?_) hs
  subst ex
  obtain rfl : u = Value.ref a := rx
  exact d_setItem hu I3 g ry rv fun s4 I4 => ⟨σ, H4, I4, q3⟩
end


/-! ### displays -/
theorem dk_empty {P : Program} {w : World} {H : Hp} (h : Heap) (hb : sysModules < h.objs.size) : ObjOk P w H (h.push { cls := .type "dict", data := .dict #[] }) h.objs.size (.dK []) :=
  ⟨Nat.zero_le _, beq_eq_false_iff_ne.mpr (Ne.symm (Nat.ne_of_lt hb)), [], .nil, Heap.DictOf.new h⟩
section
variable {X : Cx} {pos : Pos}
end

/-- the pairs of a display, from the left -/
def tPairs : List (TE × TE) → St → Hp → (List (V × V) → Hp → Prop) → Prop
  | [], _, H, Q => Q [] H
  | (tk, tv) :: r, σ, H, Q => tk σ H fun x H1 => tv σ H1 fun y H2 => tPairs r σ H2 fun ps H3 => Q ((x, y) :: ps) H3
abbrev VV : List (V × V) → List (Value × Value) → Prop := Paired fun p q => RelV p.1 q.1 ∧ RelV p.2 q.2
def PPs (X : Cx) (pos : Pos) (keys : List (Option Expr)) (values : List Expr) (trs : List (TE × TE)) : Prop :=
  ∀ (pins : List (Addr × Obj)) (s : Shared) (σ : St) (H : Hp) (Q : List (V × V) → Hp → Prop), Inv X pins σ H s → tPairs trs σ H Q →
    wpAny (model X.prog X.w) X.A (evalPairs (pairTrees keys values X.env pos)) (fun vs s' => ∃ ps H', Inv X pins σ H' s' ∧ VV ps vs ∧ Q ps H') X.xe s
theorem pps_nil {X : Cx} {pos : Pos} : PPs X pos [] [] [] := fun pins s σ H Q I h => pairTrees_nil_walk ⟨[], H, I, .nil, h⟩
theorem pps_cons {X : Cx} {pos : Pos} {k v : Expr} {ks : List (Option Expr)} {vs : List Expr} {tk tv : TE} {trs : List (TE × TE)} (hk : PE X k tk) (hv : PE X v tv) (hr : PPs X pos ks vs trs) :
    PPs X pos (some k :: ks) (v :: vs) ((tk, tv) :: trs) := fun pins s σ H Q I h =>
  pairTrees_cons_walk (thn (hk pins s σ H _ I h) fun u s1 ⟨x, H1, I1, rx, q1⟩ => thn (hv pins s1 σ H1 _ I1 q1) fun w2 s2 ⟨y, H2, I2, ry, q2⟩ =>
    thn (hr pins s2 σ H2 _ I2 q2) fun ws s3 ⟨ps, H3, I3, rel, q3⟩ => ⟨(x, y) :: ps, H3, I3, .cons ⟨rx, ry⟩ rel, q3⟩)

def mergeK (kvs more : List (Key × V)) : List (Key × V) := more.foldl (fun acc kv => putK acc kv.1 kv.2) kvs
theorem KV.merge : ∀ {more : List (Key × V)} {rs : List (Key × Value)} {kvs : List (Key × V)} {vs : List (Key × Value)}, KV more rs → KV kvs vs → KV (mergeK kvs more) (merged vs rs) := by
  intro more rs kvs vs r
  unfold KV at r
  induction r generalizing kvs vs with
  | nil => intro q; exact q
  | @cons p q ps qs h t ih =>
    intro r0
    have e : KV (putK kvs p.1 p.2) (stored vs q.1 q.2) := by
      have := r0.put p.1 h.2
      rw [← h.1]; exact this
    exact ih e
theorem length_mergeK : ∀ (more kvs : List (Key × V)), (mergeK kvs more).length ≤ kvs.length + more.length
  | [], kvs => by show kvs.length ≤ kvs.length + 0; omega
  | p :: r, kvs => by
    have h1 := length_mergeK r (putK kvs p.1 p.2)
    have h2 := length_putK kvs p.1 p.2
    show (mergeK (putK kvs p.1 p.2) r).length ≤ _
    rw [List.length_cons]; omega
theorem carries_of {P : Program} {w : World} : ∀ {kvs : List (Key × V)} {ws : List (Value × Value)}, VV (kvs.map fun kv => (kV kv.1, kv.2)) ws → ∃ rs, Carries (mixKind P w) ws rs ∧ KV kvs rs
  | [], _, r => by rw [List.map_nil] at r; cases r; exact ⟨[], True.intro, .nil⟩
  | p :: kvs, _, r => by
    rw [List.map_cons] at r
    cases r with
    | @cons a b as bs h t =>
      obtain ⟨rs, c, q⟩ := carries_of (P := P) (w := w) t
      obtain ⟨b1, b2⟩ := b
      exact ⟨(p.1, b2) :: rs, ⟨kV_is h.1, rfl, c⟩, .cons ⟨rfl, h.2⟩ q⟩
/-- {k: v, ..} with keys ints and texts; the new dict stands empty while the pairs are made -/
def tDisp (trs : List (TE × TE)) : TE := fun σ H Q => ∀ p, H p = none → tPairs trs σ (upd H p (.dK [])) fun ps H2 => H2 p = some (.dK []) ∧ ∃ kvs : List (Key × V), ps = kvs.map (fun kv => (kV kv.1, kv.2)) ∧ kvs.length ≤ 15 ∧ Q (.ref p) (upd H2 p (.dK (mergeK [] kvs)))
theorem pe_disp {X : Cx} {pos : Pos} {keys : List (Option Expr)} {values : List Expr} {trs : List (TE × TE)} (h : PPs X pos keys values trs) (hall : keys.all (·.isSome) = true) (hl : keys.length = values.length) (h0 : keys ≠ [])
    (h15 : keys.length ≤ 15) : PE X (.Dict keys values pos) (tDisp trs) := by
  intro pins s σ H Q I q
  have hn := I.hok.fresh (Nat.le_refl s.heap.objs.size)
  have I1 := I.laid (a := s.heap.objs.size) (o := .dK []) (h' := s.heap.push { cls := .type "dict", data := .dict #[] }) (t' := s.toks) (fun _ _ q => Heap.get?_push_of_some _ q) (Nat.le_refl _) (dk_empty s.heap I.big)
  refine wpAny_Dict_walk (knd := mixKind X.prog X.w) hall hl h0 h15 (thn (h pins _ σ _ _ I1 (q _ hn)) fun ws s2 ⟨ps, H2, I2, rel, e, kvs, ep, lk, q2⟩ => ?_)
  subst ep
  obtain ⟨rs, c, rk⟩ := carries_of (P := X.prog) (w := X.w) rel
  obtain ⟨z, hd, vs0, r0, dd⟩ := dk_of I2.hok e
  cases r0
  refine ⟨rs, c, dd, fun h' dd' hs => ⟨.ref s.heap.objs.size, _, ?_, rfl, q2⟩⟩
  have hz : (mergeK [] kvs).length ≤ sizeLine := by
    have h1 := length_mergeK kvs []
    rw [List.length_nil] at h1
    rw [sizeLine_eq]; omega
  have he : ∃ q, h'.get? s.heap.objs.size = some q := let ⟨q, _, _, hq, _⟩ := dd'; ⟨q, hq⟩
  exact d_write I2 (by rw [e]; exact True.intro) hs he (dk_new hz hd (rk.merge .nil) dd')


/-! ### methods -/
/-- a method call o.m(e) of a built-in, with one argument: what must be seen of the text -/
structure M1 (X : Cx) (o : Expr) (m : Str) (apos : Pos) (e : Expr) (cpos : Pos) : Prop where
  base : attributeBase o m X.env (eval o X.env) = eval o X.env
  few : ((backTo cpos (starEach [e] X.env)).all (fun x => !x.1) && (backToKw cpos (keywordEach [] X.env)).all (fun x => x.1.isSome)
    && decide (([e] : List Expr).length + ([] : List Keyword).length + (if ([] : List Keyword).isEmpty then 0 else 1) < 30)) = true
  line : (apos.endLine == cpos.line) = true
  trees : backTo cpos (starEach [e] X.env) = [(false, eval e X.env)]
structure M2 (X : Cx) (o : Expr) (m : Str) (apos : Pos) (e f : Expr) (cpos : Pos) : Prop where
  base : attributeBase o m X.env (eval o X.env) = eval o X.env
  few : ((backTo cpos (starEach [e, f] X.env)).all (fun x => !x.1) && (backToKw cpos (keywordEach [] X.env)).all (fun x => x.1.isSome)
    && decide (([e, f] : List Expr).length + ([] : List Keyword).length + (if ([] : List Keyword).isEmpty then 0 else 1) < 30)) = true
  line : (apos.endLine == cpos.line) = true
  trees : backTo cpos (starEach [e, f] X.env) = [(false, eval e X.env), (false, eval f X.env)]

/-- a is a dict, whatever its keys -/
def IsD (H : Hp) (a : Addr) : Prop := (∃ kvs, Rd H a (.dK kvs)) ∨ ∃ kvs, Rd H a (.dT kvs)
theorem isD_at {X : Cx} {pins : List (Addr × Obj)} {σ : St} {H : Hp} {s : Shared} {a : Addr} (I : Inv X pins σ H s) (d : IsD H a) :
    s.TypeIs (.ref a) "dict" ∧ (∀ b, Value.ref a = .ref b → ∃ ob, s.heap.get? b = some ob ∧ ob.dict = none) ∧ (a == sysModules) = false := by
  rcases d with ⟨kvs, e⟩ | ⟨kvs, e⟩
  · obtain ⟨_, hd, vs, _, dd⟩ := dk_rd I.hok e
    refine ⟨dd.typeIs, fun b q => ?_, hd⟩
    cases q
    obtain ⟨ob, _, _, h1, h2, _⟩ := dd
    exact ⟨ob, h1, h2.2.1⟩
  · obtain ⟨_, hd, xs, _, dd⟩ := dt_rd I.hok e
    refine ⟨dd.typeIs, fun b q => ?_, hd⟩
    cases q
    obtain ⟨ob, _, _, h1, h2, _⟩ := dd
    exact ⟨ob, h1, h2.2.1⟩

section
variable {X : Cx} {pins : List (Addr × Obj)} {σ : St} {H : Hp} {s : Shared} {a : Addr} {y d : V} {u r : Value} {o : Option V} {A : Around} {E : Value → Shared → Prop}
/-- d.get(y, x) -/
theorem d_get2 {Q : Value → Shared → Prop} (hu : A.units + 1 < cLine) (I : Inv X pins σ H s) (g : DGet H a y o) (ry : RelV y u) (rd : RelV d r) (h : ∀ w' s', Inv X pins σ H s' → RelV (o.getD d) w' → Q w' s') :
    wpAny (model X.prog X.w) A (call (.builtin "dict.get") [.ref a, u, r]) Q E s := by
  rcases g with ⟨kvs, k, e, ey, l⟩ | ⟨kvs, k, b, e, ey, eb, l⟩
  · subst ey
    obtain ⟨z, hd, vs, rel, dd⟩ := dk_rd I.hok e
    refine call_meetsIn PySem.F.slot_dict_get dd.typeIs PySem.F.entry_dict_get (PySem.F.args_dict_get_3 _ _ _) (meets_dict_get_default (mixKind X.prog X.w) a (kV_is ry) hd r) ⟨_, dd.mapOf, h _ _ (I.tok _) ?_⟩
    rw [l]
    exact (rel.val k).getD rd
  · subst ey
    cases (show u = Value.ref b from ry)
    obtain ⟨z, hd, xs, rel, dd⟩ := dt_rd I.hok e
    refine call_meetsIn PySem.F.slot_dict_get dd.typeIs PySem.F.entry_dict_get (PySem.F.args_dict_get_3 _ _ _) (meetsH_dict_get_default (tupleKind (mixKind X.prog X.w)) a b hd r) ⟨tupleKind_room_in1 hu, k, xs, key_of I.hok eb, dd, h _ _ (I.tok _) ?_⟩
    rw [l]
    exact (rel.val k).getD rd
end

def tDGet2 (td ty tx : TE) : TE := fun σ H Q => td σ H fun x H1 => ∃ a, x = .ref a ∧ IsD H1 a ∧ ty σ H1 fun y H2 => tx σ H2 fun z H3 => ∃ o, DGet H3 a y o ∧ Q (o.getD z) H3
section
variable {X : Cx} {o e f : Expr} {apos cpos : Pos} {td ty tx : TE}
theorem pe_dget2 (hu : X.A.units + 1 < cLine) (ho : PE X o td) (he : PE X e ty) (hf : PE X f tx) (m : M2 X o "get" apos e f cpos) : PE X (.Call (.Attribute o "get" apos) [e, f] [] cpos) (tDGet2 td ty tx) := by
  intro pins s σ H Q I h
  refine wpAny_Call_method m.base m.few m.line PySem.F.plainAttrs_dict PySem.F.slot_dict_get PySem.F.type_dict_get (thn (ho pins s σ H _ I h) fun u s1 ⟨x, H1, I1, rx, a, ex, d, q1⟩ => ?_)
  subst ex
  obtain rfl : u = Value.ref a := rx
  obtain ⟨t1, t2, _⟩ := isD_at I1 d
  refine ⟨t1, t2, ?_⟩
  rw [m.trees]
  refine Calls.callWith_builtin rfl (Calls.evalArgs_plain (Calls.spliced_cons (thn (he pins s1 σ H1 _ I1 q1) fun iv s2 ⟨y, H2, I2, ry, q2⟩ =>
    Calls.spliced_cons (thn (hf pins s2 σ H2 _ I2 q2) fun fv s3 ⟨z, H3, I3, rz, ov, g, q3⟩ => Calls.spliced_nil ?_))))
  exact d_get2 hu I3 g ry rz fun w' s4 I4 rw' => ⟨_, H3, I4, rw', q3⟩
end

/-! ### dict(d): a copy -/
section
variable {X : Cx} {pins : List (Addr × Obj)} {σ : St} {H : Hp} {s : Shared} {a : Addr} {kvs : List (Key × V)} {A : Around} {E : Value → Shared → Prop}
end


section
variable {X : Cx} {pins : List (Addr × Obj)} {σ : St} {H : Hp} {s : Shared} {a : Addr} {y : V} {u : Value} {A : Around} {E : Value → Shared → Prop}
end
end L2

namespace Att
open PySem PySem.W PySem.Calls PyProof.Rows

/-! ### the script -/
theorem ints_of_wellAll {P : Params} {h : Heap} : ∀ (ns : List Int) (vs : List Value), WellAll P h vs (ns.map WData.int) → IntsAre vs ns := by
  intro ns
  induction ns with
  | nil =>
    intro vs w
    rw [List.map_nil] at w
    cases w
    exact .nil
  | cons n ns ih =>
    intro vs w
    rw [List.map_cons] at w
    cases w with
    | cons a b =>
      cases a
      exact .cons _ _ (ih _ b)

theorem script_of {l : OpenLaw} {n : Nat} (hn : l.most = some n) {P : Params} {h : Heap} {args : List WData} {vals : List Value}
    (hpre : l.row.toRowW.claim.pre args = true) (hwl : WellAll P h vals args) :
    ∃ a vs ns, vals = [Value.ref a] ∧ args = [WData.list (ns.map WData.int)] ∧ h.get? a = some { cls := .type "list", data := .seq vs.toArray } ∧ IntsAre vs ns ∧ ns.length ≤ n := by
  have hsh : WShape.hasAll [] args [.list .int] = true := (pre_splitW hpre).1
  have hc : l.pre.holds [] { args := args } = true := (pre_splitW hpre).2
  obtain ⟨d, r, rfl, h1, h2⟩ := hasAllW_cons hsh
  obtain rfl := hasAllW_nil h2
  obtain ⟨xs, rfl, h3⟩ := hasW_list h1
  obtain ⟨ns, rfl⟩ := items_int h3
  have hlen : ns.length ≤ n := by
    unfold OpenLaw.pre at hc
    have h4 : (WTm.not (.lt (.lit (.int (n : Int))) (.len (.arg 0)))).holds [] { args := [.list (ns.map .int)] } = true := by
      have h4 := (holds_andW hc).1
      rw [hn] at h4
      exact h4
    have h5 := condW_of h4 (w_not (w_lt w_lit (w_len_list (w_arg rfl))))
    rw [List.length_map] at h5
    refine Nat.le_of_not_lt fun q => ?_
    have q' : (n : Int) < ((ns.length : Nat) : Int) := by omega
    first
      | (rw [decide_eq_true q'] at h5; exact absurd h5 (by decide))
      | (simp at h5; omega)
  cases hwl with
  | cons w1 w2 =>
    cases w2
    cases w1 with
    | list ho hall => exact ⟨_, _, ns, rfl, rfl, ho, ints_of_wellAll ns _ hall, hlen⟩

theorem post_true (l : OpenLaw) (args : List WData) : l.row.toRowW.claim.post args (.bool true) args = true :=
  postW_of (r := l.row.toRowW) (X := (true == true))
    (show WShape.has [] (.bool true) .bool = true by first | rfl | decide | simp [WShape.has, WShape.arms, WShape.armsAll])
    (show (WTm.eq .res (.lit (.bool true))).value [] { args := args, res := some (.bool true), after := args } = some (.bool (true == true)) from w_eq_bool (w_res rfl) w_lit) rfl

/-! ### the attachment: holds_open's last premise (the goal 'hc' behind k_head) from a wpAny of the law's body -/
/-- the same from a codeAny of the CALL (for a layer whose function contracts speak of calls) -/
theorem attach_call {l : OpenLaw} {n : Nat} {q : Program} {loose : List Str} {XP : (Str → Option Value) → Heap → Prop} {YP : World → Heap → Prop} {d : DefRec}
    (hn : l.most = some n) (hdf : d.params.defaults = [])
    (call : ∀ (w : World) (s₀ s₁ : Shared) (mg mb : Str → Option Value) (fa : Addr) (o : Obj) (pm cd doc : Value) (a : Addr) (vs : List Value) (ns : List Int),
      Ground q loose [] XP w s₀ mg mb s₁.heap → YP w s₁.heap →
      s₁.heap.get? fa = some o → o.data = .func (docDef d.name d.params d.body d.scope pm cd doc) → s₁.heap.CodeRec cd d.name → mg d.name = some (.ref fa) →
      s₁.heap.get? a = some { cls := .type "list", data := .seq vs.toArray } → IntsAre vs ns → ns.length ≤ n → s₁.gens = #[] →
      codeAny (model l.prog w) callerA (.call (.ref fa) ⟨[.ref a], []⟩) (fun r s' => r = .ok (.ret (.bool true)) ∧ OldK s₁.heap s'.heap ∧ s'.os = s₁.os ∧ AllBare s'.gens) s₁) :
    WalkO q loose XP YP l.row.toRowW d [] (fun f vs => PySem.call f vs) := by
  intro w s₀ s₁ mg mb G Y fa o pm cd doc dV kV ho hd hcd hD hmg hg args vals as hpre hlay hrd hwl hlo
  obtain rfl : dV = .none := Dflts.none hD hdf
  obtain rfl : kV = .none := Dflts.noKw hD
  obtain ⟨a, vs, ns, rfl, rfl, hobj, hints, hlen⟩ := script_of hn hpre hwl
  refine enter_call (codeAny_mono (call w s₀ s₁ mg mb fa o pm cd doc a vs ns G Y ho (fd_plain hd) hcd hmg hobj hints hlen hg) fun r s' hq => ?_)
  obtain ⟨rfl, h2, h3, h4⟩ := hq
  exact ⟨.inl ⟨.bool true, .bool true, [], rfl, fun _ => rfl, .bool true, post_true l _, fun _ => ⟨List.Pairwise.nil, fun _ hm => (nomatch hm)⟩⟩, h2, h3, h4⟩

/-! ### rules over ANY heap (no ledger) from facts about the written part K: the library's own take a ledger (News) for what they write -/
section
variable {prog : Program} {w : World} {A : Around} {E : Value → Shared → Prop} {s : Shared} {K : Frag}

/-! the whole heap as the ledger: makes every rule that writes through a ledger a rule over any heap -/
def ledger (h : Heap) (L d : Addr) : List (Addr × Obj) := (List.range h.objs.size).filterMap fun a => if a = L ∨ a = d then none else (h.get? a).map fun o => (a, o)
end
end Att

namespace L2
open PySem PySem.Spec PyProof.Rows

theorem vals_ints : ∀ {vs : List Value} {ns : List Int}, IntsAre vs ns → Vals (ns.map V.int) vs
  | _, _, .nil => .nil
  | _, _, .cons n t h => .cons ⟨t, rfl⟩ (vals_ints h)

/-- nothing is tracked but the script, known to the object (or it is an object of the module) -/
def Only (H : Hp) : Prop := ∀ b, H b = none ∨ ∃ o xs, H b = some (.frz o (.lst xs))

/-- THE HEAD: the law's promise, at the heap behind the top. F, the promise of the law's def, may use that base is part of the heap (so K.In base, base.Ns mainGlobals mg stand in Mod) -/
theorem law_call {P : Program} {w : World} {K : PySem.W.Frag} {mg mb : Str → Option Value} {CX : CXT} {k : Nat} {fa a : Addr} {fd : FuncData} {x : Str} {sp : Sp} {s₁ : Shared} {vs : List Value} {ns : List Int}
    (KX : K.In s₁.heap) (hns : s₁.heap.Ns mainGlobals mg) (hb : s₁.heap.Ns builtinsNs mb) (hbb : ∀ x : Str, x ≠ "__name__" → mb x = bootBuiltins x) (hlim : s₁.heap.NoLimit) (hg : s₁.gens = #[])
    (ha : s₁.heap.get? a = some { cls := .type "list", data := .seq vs.toArray }) (hi : IntsAre vs ns) (hl : ns.length ≤ sizeLine) (hr : Room k callerA)
    (F : ∀ base : Heap, K.In base → base.Ns mainGlobals mg → FnOk P w K mg base CX k fa fd [x] sp) (hbind : ∀ (s : Shared) (u : Value), BindsTo s fd ⟨[u], []⟩ [(x, u)])
    (hsp : ∀ H : Hp, Only H → SqL K H a (ns.map V.int) → sp [.ref a] H (fun v _ => v = .bl true) fun _ _ _ => False)
    (hCX : ∀ H e s', CX [] H s₁ (fun _ _ _ => False) e s' → False) :
    codeAny (model P w) callerA (.call (.ref fa) ⟨[.ref a], []⟩) (fun r s' => r = .ok (.ret (.bool true)) ∧ OldK s₁.heap s'.heap ∧ s'.os = s₁.os ∧ AllBare s'.gens) s₁ := by
  have rv := vals_ints hi
  have lenV := hi.length
  -- from an abstract heap in which nothing but the script may be tracked
  have core : ∀ H : Hp, Only H → SqL K H a (ns.map V.int) → HOk P w H s₁.heap → (∀ b, H b ≠ none → b = a) → (H a ≠ none → K.lookup a = none) →
      codeAny (model P w) callerA (.call (.ref fa) ⟨[.ref a], []⟩) (fun r s' => r = .ok (.ret (.bool true)) ∧ OldK s₁.heap s'.heap ∧ s'.os = s₁.os ∧ AllBare s'.gens) s₁ := by
    intro H hO hS hok hA hK
    have base_of : ∀ {b : Addr} {o : Obj}, s₁.heap.get? b = some o → H b = none → (hidT s₁.heap H).get? b = some o := fun e n => hidT_get e n
    have noA : ∀ {b : Addr} {o : Obj} {es : Array DictEntry} {ep : Nat}, s₁.heap.get? b = some o → o.data = .dict es ep → H b = none := fun {b o es ep} e d => by
      cases q : H b with
      | none => rfl
      | some u =>
        have e' : b = a := hA b (by rw [q]; simp)
        subst e'
        rw [ha] at e; cases e
        have d' : Data.seq vs.toArray _ = Data.dict es ep := d
        cases d'
    have nsK : ∀ {b : Addr} {m : Str → Option Value}, s₁.heap.Ns b m → (hidT s₁.heap H).Ns b m := fun {b m} ⟨o, es, ep, e, d, r⟩ => ⟨o, es, ep, base_of e (noA e d), d, r⟩
    have hKb : K.In (hidT s₁.heap H) := fun b o e => base_of (KX b o e) (by
      cases q : H b with
      | none => rfl
      | some u =>
        have e' : b = a := hA b (by rw [q]; simp)
        subst e'
        rw [hK (by rw [q]; simp)] at e; cases e)
    have hM : Mod K mg (hidT s₁.heap H) := ⟨hKb, nsK hns, ⟨mb, nsK hb, hbb⟩, let ⟨mc, h1, h2⟩ := hlim; ⟨mc, nsK h1, h2⟩⟩
    have e0 : Env0 P w K mg (hidT s₁.heap H) callerA [] s₁ H := ⟨rfl, hM, fun b o e => of_hidT e, Nat.le_of_eq (hidT_size _ _), trivial, fun b hb => absurd (show b ∈ ([] : List Addr) from hb) (by simp), hok, .of_eq hg⟩
    refine codeAny_mono ((F _ hKb (nsK hns)).run callerA [] s₁ H ⟨[.ref a], []⟩ [.ref a] [.ref a] _ _ hr e0 (hbind s₁ (.ref a)) (.cons rfl .nil) (hsp H hO hS)) fun r s' h => ?_
    cases r with
    | error e => exact (hCX H e s' h).elim
    | ok fl =>
      cases fl with
      | next => exact False.elim h
      | brk => exact False.elim h
      | cont => exact False.elim h
      | ret u =>
        obtain ⟨v, H', os, bare, un, hok', r', q⟩ := h
        have q' : v = .bl true := q
        subst q'
        obtain rfl : u = Value.bool true := r'
        refine ⟨rfl, OldK.of_keep fun b o e => ?_, os, bare⟩
        cases q : H b with
        | none => exact un.keep b o e q (by intro z; exact absurd (show b ∈ ([] : List Addr) from z) (by simp)) (by simp)
        | some u =>
          rcases hO b with z | ⟨ob, xs, z⟩
          · rw [q] at z; cases z
          · have z2 := un.frzs b ob _ z
            obtain ⟨e1, _⟩ := hok b _ z
            obtain ⟨e2, _⟩ := hok' b _ z2
            rw [e] at e1; cases e1
            exact e2
  cases hk : K.lookup a with
  | some o =>
    -- the script is one of the module's own objects
    have e := KX a o hk
    rw [ha] at e
    cases e
    refine core (fun _ => none) (fun _ => .inl rfl) (.inr ⟨_, vs.toArray, _, hk, rfl, rfl, rfl, by rw [List.size_toArray, lenV]; exact hl, by simpa using rv⟩) (fun b u z => by have z' : (none : Option HO) = some u := z; cases z') (fun b z => absurd rfl z) fun z => absurd rfl z
  | none =>
    refine core (fun b => if b = a then some (.frz { cls := .type "list", data := .seq vs.toArray } (.lst (ns.map V.int))) else none) (fun b => ?_) (.inl (.inr ⟨{ cls := .type "list", data := .seq vs.toArray }, if_pos rfl⟩)) (fun b u z => ?_) (fun b z => ?_) fun _ => hk
    · by_cases hb : b = a
      · exact .inr ⟨_, _, if_pos hb⟩
      · exact .inl (if_neg hb)
    · by_cases hb : b = a
      · have z' := (if_pos hb).symm.trans z
        cases z'
        subst hb
        exact ⟨ha, by rw [List.length_map]; exact hl, vs, _, rv, ha⟩
      · have z' := (if_neg hb).symm.trans z
        cases z'
    · by_cases hb : b = a
      · exact hb
      · exact absurd (if_neg hb) z
end L2

namespace L2
open PySem PySem.Spec PyProof.Rows

/-- the goal that k_head leaves (case hc), from the law's promise. F gives the function object fd (K's own) once, then the promise over every base -/
theorem walk_of {l : PySem.W.OpenLaw} {n k : Nat} {q : Program} {loose : List Str} {XP : (Str → Option Value) → Heap → Prop} {YP : World → Heap → Prop} {d : DefRec} {K : Params → PySem.W.Frag} {CX : World → CXT} {sp : World → Sp} {x : Str}
    (hn : l.most = some n) (hn2 : n ≤ sizeLine) (hdf : d.params.defaults = []) (hr : Room k callerA)
    (hY : ∀ (w : World) (h : Heap), YP w h → (K w.params).In h)
    (F : ∀ (w : World) (mg : Str → Option Value) (fa : Addr) (h : Heap), (K w.params).In h → h.Ns mainGlobals mg → mg d.name = some (.ref fa) →
      ∃ fd : FuncData, (∀ (s : Shared) (u : Value), BindsTo s fd ⟨[u], []⟩ [(x, u)]) ∧
        ∀ base : Heap, (K w.params).In base → base.Ns mainGlobals mg → FnOk l.prog w (K w.params) mg base (CX w) k fa fd [x] (sp w))
    (hsp : ∀ (w : World) (H : Hp) (a : Addr) (ns : List Int), ns.length ≤ n → Only H → SqL (K w.params) H a (ns.map V.int) → sp w [.ref a] H (fun v _ => v = .bl true) fun _ _ _ => False)
    (hCX : ∀ (w : World) (H : Hp) (s : Shared) (e : Value) (s' : Shared), CX w [] H s (fun _ _ _ => False) e s' → False) :
    PySem.W.WalkO q loose XP YP l.row.toRowW d [] (fun f vs => PySem.call f vs) := by
  refine Att.attach_call hn hdf fun w s₀ s₁ mg mb fa o pm cd doc a vs ns G Y ho hd hcd hmg hobj hints hlen hg => ?_
  have KX := hY w _ Y
  obtain ⟨fd, hb, hF⟩ := F w mg fa _ KX G.T.g hmg
  exact law_call KX G.T.g G.T.b G.T.builtins G.T.nolimit hg hobj hints (Nat.le_trans hlen hn2) hr hF hb (fun H hO hS => hsp w H a ns hlen hO hS) fun H e s' => hCX w H s₁ e s'
end L2

/- THE LAST THEOREM (shape; LID, My.* are yours):
   My.Adr: a structure of the addresses that your layer names (classes, functions); My.Txt K t: a structure (Prop) of the equations over K;
   My.txt_mk : {K} {implicit addresses ..} (e1 : nsIn K mainGlobals "law" = some (some (.ref f))) (e2 : K.lookup f = some ⟨oc, od, .func (fnOf "law" "law" params body scope dV kV doc pm an cdv ct), sl⟩) (e3 : codeIn K cdv "law" = true) .. : ∃ t, My.Txt K t

set_option maxRecDepth 100000 in
set_option maxHeartbeats 0 in
theorem PySem.Challenge.cw_LID_holds : PySem.Challenge.rw_LID.Holds := by
  w_on; o_law; k_head; (case hw => w_witness2)
  k_fill
  refine L2.walk_of (l := PySem.Challenge.rw_LID) (n := 63) (k := 40) (x := "script") (CX := fun w => ..) (sp := fun _ => My.sp_law) rfl (by decide) rfl ⟨rfl, by decide, by decide⟩ (fun w h Y => PySem.W.kIn_of Y) ?F ?S ?C
  case F =>
    intro w mg fa h KX G hmg
    have T : ∃ t, My.Txt (L2.KOf KX) t := by
      dsimp only [L2.KOf]                          -- K must stand as «<heap const> w.params» for k_is
      refine' My.txt_mk ?e1 ?e2 ?e3 ..
      (case e1 => PySem.W.k_is)                    -- in the order: a name -> its address -> its object -> its parts
      (case e2 => PySem.W.k_is)
      ..
    obtain ⟨t, T⟩ := T
    have e0 := hmg.symm.trans (PySem.W.mg_of KX G T.law)
    cases e0                                       -- fa is the law's own address
    exact ⟨_, fun s u => .of_eq rfl, fun base kb nb => My.law_fn T kb nb⟩     -- if «.of_eq rfl» comes too early: refine' ⟨_, ?b, fun base kb nb => My.law_fn T kb nb⟩; exact fun s u => .of_eq rfl
  case S => exact fun w H a ns hl hO hS => ..
  case C => exact ..
(the tactic k_is has no namespace: write k_is) -/

/-! SHORT WORDS over the layer: a def of the text, its body, what a loop and a test want. -/
namespace L2
open PySem PySem.Spec PyProof.Rows

/-! ### the text by places -/
def defArgs (s : Stmt) : Arguments := match s with
  | .FunctionDef _ a _ _ _ _ _ _ _ _ => a
  | _ => { posonlyargs := [], args := [], vararg := none, kwonlyargs := [], kw_defaults := [], kwarg := none, defaults := [] }
def defBody (s : Stmt) : List Stmt := match s with
  | .FunctionDef _ _ b _ _ _ _ _ _ _ => b
  | _ => []
def defScope (s : Stmt) : Scope := match s with
  | .FunctionDef _ _ _ _ _ _ sc _ _ _ => sc
  | _ => { kind := .function, names := [], isGenerator := false, isCoroutine := false }

/-! ### no exception leaves a def -/
abbrev CX0 : CXT := fun _ _ _ _ _ _ => False
abbrev E0 : XK := fun _ _ _ => False
theorem pass0 {X : Cx} : Passes CX0 X E0 := fun _ _ _ _ _ _ _ h => h.elim

/-! ### a def (or method) of the text as it stands behind the top -/
structure Fun (K : PySem.W.Frag) (x qual : Str) (st : Stmt) (f : Addr) (fd : FuncData) : Prop where
  ex : ∃ (oc : Value) (od : Option Addr) (kV doc pm : Value) (an : Option Addr) (cdv ct : Value) (osl : Array (Option Value)),
    fd = PySem.W.fnOf x qual (defArgs st) (defBody st) (defScope st) .none kV doc pm an cdv ct ∧ K.lookup f = some ⟨oc, od, .func fd, osl⟩ ∧ PySem.W.codeIn K cdv qual = true
  kp : PySem.W.keepIn K (.ref f) = true
section
variable {P : Program} {w : World} {K : PySem.W.Frag} {mg : Str → Option Value} {base : Heap}
/-- THE RULE for a def: its body as a term of rules, and the reading of that term -/
theorem Fun.ok {x qual : Str} {st : Stmt} {f : Addr} {fd : FuncData} {N ps : List Str} {k : Nat} {sp : Sp} (F : Fun K x qual st f fd) (S : FnScope N ps (defScope st)) (len : ∀ vs H Q E, sp vs H Q E → vs.length = ps.length)
    (hbody : ∀ (cdv : Value) (A : Around) (outer : List Env) (s : Shared) (H : Hp) (vs : List V) (Q : VK) (E : XK), Room k (A.deeper (envOfC qual (defScope st) s.heap.objs.size f cdv)) → sp vs H Q E →
      ∃ t, PSs (cxOf CX0 P w K mg base N qual (defScope st) f cdv A outer s H E).nox (defBody st) t ∧ t { nx := fun _ H' => Q .non H', rt := Q } (start N vs) H) : FnOk P w K mg base CX0 (k + 1) f fd ps sp := by
  obtain ⟨oc, od, kV, doc, pm, an, cdv, ct, osl, rfl, lk, hcd⟩ := F.ex
  refine fn_of lk hcd S len fun A outer s H vs Q E hr hsp => ?_
  obtain ⟨t, h, q⟩ := hbody cdv A outer s H vs Q E hr hsp
  exact ⟨t, h.nox, q⟩
/-- how its arguments bind (no defaults): h is «fun _ _ _ _ _ _ us hl => match us, hl with | [_, _], _ => rfl», one _ a parameter -/
theorem Fun.binds {x qual : Str} {st : Stmt} {f : Addr} {fd : FuncData} {ps : List Str} (F : Fun K x qual st f fd)
    (h : ∀ (kV doc pm : Value) (an : Option Addr) (cdv ct : Value) (us : List Value), us.length = ps.length → bindArgs (PySem.W.fnOf x qual (defArgs st) (defBody st) (defScope st) .none kV doc pm an cdv ct) ⟨us, []⟩ = pure (ps.zip us)) : Binds K fd ps [] := by
  obtain ⟨oc, od, kV, doc, pm, an, cdv, ct, osl, rfl, lk, hcd⟩ := F.ex
  exact .all (h kV doc pm an cdv ct)
theorem fun_mk {x qual : Str} {st : Stmt} {f : Addr} {oc : Value} {od an : Option Addr} {osl : Array (Option Value)} {kV doc pm cdv ct : Value} (l : K.lookup f = some ⟨oc, od, .func (PySem.W.fnOf x qual (defArgs st) (defBody st) (defScope st) .none kV doc pm an cdv ct), osl⟩)
    (c : PySem.W.codeIn K cdv qual = true) (k : PySem.W.keepIn K (.ref f) = true) : Fun K x qual st f (PySem.W.fnOf x qual (defArgs st) (defBody st) (defScope st) .none kV doc pm an cdv ct) := ⟨⟨oc, od, kV, doc, pm, an, cdv, ct, osl, rfl, l, c⟩, k⟩
end
theorem hu_of {A : Around} {k : Nat} (hr : Room k A) : A.units + 1 < cLine := Nat.lt_of_le_of_lt (Nat.add_le_add_left (by decide : 1 ≤ 64) _) hr.units
/-! ### expressions in short: the name that stands in the i-th slot -/
section
variable {X : Cx}
theorem pv (i : Nat) {x : Str} {pos : Pos} (hN : X.N[i]? = some x := by rfl) (hv : Vis X.env.scope x := by first | exact Or.inl rfl | exact Or.inr (Or.inl rfl) | exact Or.inr (Or.inr rfl)) (hd : (x == ("__debug__" : Str)) = false := by decide)
    (hcd : (x == ("__classdict__" : Str)) = false := by decide) : PE X (.Name x pos) (tVar i) := pe_var hN hv hd hcd
end

/-! ### tests -/
theorem iteF {A B : Prop} (h : B) : if false = true then A else B := by
  rw [if_neg Bool.false_ne_true]
  exact h
theorem iteT {A B : Prop} (h : A) : if true = true then A else B := by
  rw [if_pos rfl]
  exact h
/-! ### heaps -/
/-- all that was tracked is as it was -/
def Same (H H' : Hp) : Prop := ∀ b o, H b = some o → H' b = some o
theorem Same.seq {K : PySem.W.Frag} {H H' : Hp} {a : Addr} {xs : List V} (e : Same H H') (h : SqL K H a xs) : SqL K H' a xs := by
  rcases h with (h | ⟨o, h⟩) | h
  · exact .inl (.inl (e _ _ h))
  · exact .inl (.inr ⟨o, e _ _ h⟩)
  · exact .inr h

section
variable {X : Cx}
end
/-! ### a dict's pairs: keys that differ -/
section
variable {κ : Type} [DecidableEq κ]
end
end L2

/-! OWN RULES 0: zip of two sequences, each a list or a tuple -/
namespace ZG
open PySem
/-- kind b: true a tuple, false a list -/
def Sq (b : Bool) (h : Heap) (l : Addr) (xs : Array Value) : Prop := match b with
  | true => h.IsTuple l xs
  | false => h.IsList l xs
def Dr (b : Bool) (h : Heap) (i l : Addr) (k : Nat) : Prop := match b with
  | true => h.IsTupleIter i l k
  | false => h.IsListIter i l k
theorem Sq.ext {b : Bool} {h h' : Heap} {l c : Addr} {xs : Array Value} (x : Sq b h l xs) (k : Heap.ExtBut c h h') (n : l ≠ c) : Sq b h' l xs := by
  cases b with
  | true => exact Heap.IsTuple.extBut (show h.IsTuple l xs from x) k n
  | false => exact Heap.IsList.extBut (show h.IsList l xs from x) k n
theorem Dr.ext {b : Bool} {h h' : Heap} {i l c : Addr} {k : Nat} (x : Dr b h i l k) (e : Heap.ExtBut c h h') (n : i ≠ c) : Dr b h' i l k := by
  cases b with
  | true => exact Heap.IsTupleIter.extBut (show h.IsTupleIter i l k from x) e n
  | false => exact Heap.IsListIter.extBut (show h.IsListIter i l k from x) e n
theorem Dr.some {b : Bool} {h : Heap} {i l : Addr} {k : Nat} (x : Dr b h i l k) : ∃ o, h.get? i = some o ∧ ∀ v, o.data ≠ .cell v := by
  cases b with
  | true => obtain ⟨o, e, _, d⟩ := (show h.IsTupleIter i l k from x); exact ⟨o, e, fun v z => by rw [d] at z; cases z⟩
  | false => obtain ⟨o, e, _, d⟩ := (show h.IsListIter i l k from x); exact ⟨o, e, fun v z => by rw [d] at z; cases z⟩
theorem Dr.at {b : Bool} {h h' : Heap} {i l : Addr} {k : Nat} (x : Dr b h i l k) (e : ∀ o, h.get? i = Option.some o → h'.get? i = Option.some o) : Dr b h' i l k := by
  cases b with
  | true => obtain ⟨o, q, r⟩ := (show h.IsTupleIter i l k from x); exact ⟨o, e o q, r⟩
  | false => obtain ⟨o, q, r⟩ := (show h.IsListIter i l k from x); exact ⟨o, e o q, r⟩
theorem Sq.at {b : Bool} {h h' : Heap} {l : Addr} {xs : Array Value} (x : Sq b h l xs) (e : ∀ o, h.get? l = Option.some o → h'.get? l = Option.some o) : Sq b h' l xs := by
  cases b with
  | true => obtain ⟨o, q, r⟩ := (show h.IsTuple l xs from x); exact ⟨o, e o q, r⟩
  | false => obtain ⟨o, q, r⟩ := (show h.IsList l xs from x); exact ⟨o, e o q, r⟩

section
variable {prog : Program} {w : World} {A : Around} {E : Value → Shared → Prop} {s : Shared}
theorem tupNext {i l : Addr} {k : Nat} {xs : Array Value} {v : Value} {Q : Value → Shared → Prop} (d : s.heap.IsTupleIter i l k) (q : s.heap.IsTuple l xs) (hv : xs[k]? = some v)
    (r : ∀ g, g.IsTupleIter i l (k + 1) → Heap.SameBut i s.heap g → Q v { s with heap := g }) : wpAny (model prog w) A (Builtin.SmallTypes.nextOf (.ref i)) Q E s := by
  obtain ⟨oi, hoi, ci, di⟩ := id d
  obtain ⟨ol, hol, _, nl, dl⟩ := q
  unfold Builtin.SmallTypes.nextOf
  refine wpAny_bind (wpAny_callSpecial?_slot (name := Str.ofString "__next__") d.typeIs F.slot_tuple_iterator_next (wpAny_call_entry F.slot_tuple_iterator_next d.typeIs F.entry_tuple_iterator_next ?_ (F.args_tuple_iterator_next_1 _)))
  show wpAny _ _ (field (.ref i) 0 >>= _) _ _ s
  refine wpAny_bind (wpAny_field hoi di (x := .ref l) rfl ?_)
  show wpAny _ _ (if (Value.ref l == Value.none) = true then _ else _) _ _ s
  rw [if_neg (show ¬ ((Value.ref l == Value.none) = true) from Bool.false_ne_true)]
  show wpAny _ _ (field (.ref i) 1 >>= _) _ _ s
  refine wpAny_bind (wpAny_field hoi di (x := .int k 0) rfl ?_)
  show wpAny _ _ (seqItems? (.ref l) >>= _) _ _ s
  refine wpAny_bind (wpAny_seqItems hol dl ?_)
  simp only [Int.toNat_natCast, hv]
  refine wpAny_bind (wpAny_setField hoi di (by simp) (wpAny_pure ⟨v, rfl, wpAny_pure (r _ ?_ (Heap.SameBut.update ..))⟩))
  exact ⟨_, Heap.get?_update_self _ hoi (Obj.isFreed_of_fields (Obj.data_mapFields di _)), (Obj.cls_mapFields ..).trans ci, by rw [Obj.data_mapFields di]; simp [rawInt]⟩
theorem tupEnd {i l : Addr} {k : Nat} {xs : Array Value} {Q : Value → Shared → Prop} (hh : A.handled = none) (d : s.heap.IsTupleIter i l k) (q : s.heap.IsTuple l xs) (hv : xs[k]? = none)
    (r : ∀ g e, Heap.ExtBut i s.heap g → (∃ o, g.get? e = some o ∧ o.cls = .type "StopIteration") → E (.ref e) { s with heap := g }) : wpAny (model prog w) A (Builtin.SmallTypes.nextOf (.ref i)) Q E s := by
  obtain ⟨oi, hoi, ci, di⟩ := id d
  obtain ⟨ol, hol, _, nl, dl⟩ := q
  unfold Builtin.SmallTypes.nextOf
  refine wpAny_bind (wpAny_callSpecial?_slot (name := Str.ofString "__next__") d.typeIs F.slot_tuple_iterator_next (wpAny_call_entry F.slot_tuple_iterator_next d.typeIs F.entry_tuple_iterator_next ?_ (F.args_tuple_iterator_next_1 _)))
  show wpAny _ _ (field (.ref i) 0 >>= _) _ _ s
  refine wpAny_bind (wpAny_field hoi di (x := .ref l) rfl ?_)
  show wpAny _ _ (if (Value.ref l == Value.none) = true then _ else _) _ _ s
  rw [if_neg (show ¬ ((Value.ref l == Value.none) = true) from Bool.false_ne_true)]
  show wpAny _ _ (field (.ref i) 1 >>= _) _ _ s
  refine wpAny_bind (wpAny_field hoi di (x := .int k 0) rfl ?_)
  show wpAny _ _ (seqItems? (.ref l) >>= _) _ _ s
  refine wpAny_bind (wpAny_seqItems hol dl ?_)
  simp only [Int.toNat_natCast, hv]
  refine wpAny_bind (wpAny_rule (wpAny_bind (wpAny_setField hoi di (by simp) ?_)))
  show wpAny _ _ (newExc (.type "StopIteration") [] >>= _) _ _ _
  refine wpAny_bind ?_
  simp only [newExc, newTuple]
  refine wpAny_bind (wpAny_newObj_type ?_ (by size_fits))
  refine wpAny_bind (m := firstArgMember _ _) (wpAny_of_eq (a := Value.none) (by first | rfl | (simp only [firstArgMember]; rfl)) ?_)
  refine wpAny_newObj_type ?_ (by size_fits)
  simp only [raiseNew]
  refine wpAny_bind (wpAny_handled ?_)
  first | rw [show A.in1.handled = none from hh] | rw [hh]
  refine wpAny_bind (wpAny_pure (wpAny_throw ?_))
  exact r _ _ (((Heap.SameBut.update ..).extBut.push _).push _) ⟨_, Heap.get?_push_size _ rfl, rfl⟩
/-- one drawn -/
theorem drNext {b : Bool} {i l : Addr} {k : Nat} {xs : Array Value} {v : Value} {Q : Value → Shared → Prop} (d : Dr b s.heap i l k) (q : Sq b s.heap l xs) (hv : xs[k]? = some v)
    (r : ∀ g, Dr b g i l (k + 1) → Heap.SameBut i s.heap g → Q v { s with heap := g }) : wpAny (model prog w) A (Builtin.SmallTypes.nextOf (.ref i)) Q E s := by
  cases b with
  | true => exact tupNext d q hv r
  | false => exact wpAny_nextOf_list_item d q hv r
theorem drEnd {b : Bool} {i l : Addr} {k : Nat} {xs : Array Value} {Q : Value → Shared → Prop} (hh : A.handled = none) (d : Dr b s.heap i l k) (q : Sq b s.heap l xs) (hv : xs[k]? = none)
    (r : ∀ g e, Heap.ExtBut i s.heap g → (∃ o, g.get? e = some o ∧ o.cls = .type "StopIteration") → E (.ref e) { s with heap := g }) : wpAny (model prog w) A (Builtin.SmallTypes.nextOf (.ref i)) Q E s := by
  cases b with
  | true => exact tupEnd hh d q hv r
  | false => exact wpAny_nextOf_list_end hh d q hv r
/-- the zip's five records stand apart, and apart from the sequences -/
structure Off (z TI TO i1 i2 l1 l2 : Addr) : Prop where
  a1 : TI ≠ z
  a2 : TO ≠ z
  a3 : i1 ≠ z
  a4 : i2 ≠ z
  a5 : TI ≠ TO
  a6 : TI ≠ i1
  a7 : TI ≠ i2
  a8 : TO ≠ i1
  a9 : TO ≠ i2
  b1 : i1 ≠ i2
  c1 : l1 ≠ z
  c2 : l1 ≠ TO
  c3 : l1 ≠ i1
  c4 : l1 ≠ i2
  e1 : l2 ≠ z
  e2 : l2 ≠ TO
  e3 : l2 ≠ i1
  e4 : l2 ≠ i2

theorem zNext {b1 b2 : Bool} {z TI TO i1 i2 l1 l2 : Addr} {k : Nat} {xs ys : Array Value} {x y a b : Value} {Q : Value → Shared → Prop} (D : Off z TI TO i1 i2 l1 l2)
    (hz : IsZip s.heap z TI TO .none) (hi : IsPair s.heap TI (.ref i1) (.ref i2)) (ho : IsPair s.heap TO a b)
    (d1 : Dr b1 s.heap i1 l1 k) (d2 : Dr b2 s.heap i2 l2 k) (q1 : Sq b1 s.heap l1 xs) (q2 : Sq b2 s.heap l2 ys) (hx : xs[k]? = some x) (hy : ys[k]? = some y)
    (r : ∀ g, IsZip g z TI TO (rawInt s.heap.objs.size) → IsPair g TO x y → Dr b1 g i1 l1 (k + 1) → Dr b2 g i2 l2 (k + 1) → IsPair g s.heap.objs.size x y → g.objs.size = s.heap.objs.size + 1 →
      (∀ c o, c ≠ z → c ≠ TO → c ≠ i1 → c ≠ i2 → s.heap.get? c = some o → g.get? c = some o) → Q (.ref s.heap.objs.size) { s with heap := g }) :
    wpAny (model prog w) A (Builtin.«zip.__next__» ⟨[.ref z], []⟩) (fun fin s' => ∃ v, fin = .done (.ret v) ∧ Q v s') E s := by
  show wpAny _ _ (field (.ref z) 2 >>= _) _ _ _
  refine wpAny_bind (wpAny_field hz rfl (x := .bool false) rfl ?_)
  show wpAny _ _ (field (.ref z) 3 >>= _) _ _ _
  refine wpAny_bind (wpAny_field hz rfl (x := .ref TI) rfl (wpAny_bind (wpAny_seqItems hi rfl ?_)))
  show wpAny _ _ (Builtin.SmallTypes.ownedTupleIsFree (.ref z) >>= _) _ _ _
  refine wpAny_bind ?_
  unfold Builtin.SmallTypes.ownedTupleIsFree
  refine wpAny_bind (wpAny_field hz rfl (x := .none) rfl (wpAny_pure ?_))
  simp only [if_true]
  refine wpAny_bind (wpAny_rule (wpAny_bind (wpAny_field hz rfl (x := .ref TO) rfl (wpAny_bind (wpAny_setField_rec hz (by simp) fun g1 z1 s1 => ?_)))))
  have z1 : IsZip g1 z TI TO .ellipsis := z1
  refine wpAny_bind ?_
  simp only [List.zipIdx_cons, List.zipIdx_nil, List.forIn_cons, List.forIn_nil]
  refine wpAny_bind (wpAny_bind (wpAny_onRaise ?_))
  show wpAny _ _ (Builtin.SmallTypes.nextOf (.ref i1) >>= _) _ _ _
  refine wpAny_bind (drNext (d1.ext s1.extBut D.a3) (q1.ext s1.extBut D.c1) hx fun g2 w2 s2 => wpAny_pure ?_)
  have o2 : IsPair g2 TO a b := s2.extBut _ _ D.a8 (s1.extBut _ _ D.a2 ho)
  refine wpAny_bind (wpAny_seqItems o2 rfl (wpAny_bind (wpAny_updateSeq_pair o2 fun g3 o3 s3 => ?_)))
  have o3 : IsPair g3 TO x b := o3
  refine wpAny_bind (wpAny_letGo (wpAny_pure (wpAny_bind (wpAny_bind (wpAny_onRaise ?_)))))
  show wpAny _ _ (Builtin.SmallTypes.nextOf (.ref i2) >>= _) _ _ _
  refine wpAny_bind (drNext (((d2.ext s1.extBut D.a4).ext s2.extBut D.b1.symm).ext s3.extBut D.a9.symm) (((q2.ext s1.extBut D.e1).ext s2.extBut D.e3).ext s3.extBut D.e2) hy fun g4 w4 s4 => wpAny_pure ?_)
  have o4 : IsPair g4 TO x b := s4.extBut _ _ D.a9 o3
  refine wpAny_bind (wpAny_seqItems o4 rfl (wpAny_bind (wpAny_updateSeq_pair o4 fun g5 o5 s5 => ?_)))
  have o5 : IsPair g5 TO x y := o5
  refine wpAny_bind (wpAny_letGo (wpAny_pure (wpAny_pure (wpAny_bind (wpAny_seqItems o5 rfl (wpAny_bind (wpAny_newTuple ?_)))))))
  have sz : g5.objs.size = s.heap.objs.size := by rw [s5.1, s4.1, s3.1, s2.1, s1.1]
  have z5 : IsZip g5 z TI TO .ellipsis := s5.extBut _ _ D.a2.symm (s4.extBut _ _ D.a4.symm (s3.extBut _ _ D.a2.symm (s2.extBut _ _ D.a3.symm z1)))
  have k5 : ∀ c o, c ≠ z → c ≠ TO → c ≠ i1 → c ≠ i2 → s.heap.get? c = some o → g5.get? c = some o := fun c o n1 n2 n3 n4 e =>
    s5.extBut _ _ n2 (s4.extBut _ _ n4 (s3.extBut _ _ n2 (s2.extBut _ _ n3 (s1.extBut _ _ n1 e))))
  have w15 : Dr b1 g5 i1 l1 (k + 1) := ((w2.ext s3.extBut D.a8.symm).ext s4.extBut D.b1).ext s5.extBut D.a8.symm
  have w25 : Dr b2 g5 i2 l2 (k + 1) := w4.ext s5.extBut D.a9.symm
  have zlt : z < g5.objs.size := Heap.lt_size z5
  show wpAny _ _ (Builtin.SmallTypes.ownedTupleHandOut (.ref z) (.ref g5.objs.size) >>= _) _ _ _
  refine wpAny_bind ?_
  unfold Builtin.SmallTypes.ownedTupleHandOut
  have z6 : IsZip (g5.push { cls := .type "tuple", data := .seq #[x, y] }) z TI TO .ellipsis := Heap.get?_push_of_some _ z5
  refine wpAny_bind (wpAny_setField_rec z6 (by simp) fun g7 z7 s7 => ?_)
  have z7 : IsZip g7 z TI TO (rawInt g5.objs.size) := z7
  refine wpAny_setField_rec z7 (by simp) fun g8 z8 s8 => ?_
  have z8 : IsZip g8 z TI TO (rawInt g5.objs.size) := z8
  have up : ∀ c o, c ≠ z → g5.get? c = some o → g8.get? c = some o := fun c o n e => s8.extBut _ _ n (s7.extBut _ _ n (Heap.get?_push_of_some _ e))
  have t8 : IsPair g8 g5.objs.size x y := s8.extBut _ _ (Nat.ne_of_gt zlt) (s7.extBut _ _ (Nat.ne_of_gt zlt) (Heap.get?_push_size _ rfl))
  have e8 : g8.objs.size = g5.objs.size + 1 := by rw [s8.1, s7.1, Heap.size_push]
  rw [sz] at z8 t8 e8
  refine wpAny_pure ⟨_, rfl, ?_⟩
  show Q (.ref g5.objs.size) _
  rw [sz]
  exact r g8 z8 (up _ _ D.a2 o5) (w15.at fun o e => up _ o D.a3 e) (w25.at fun o e => up _ o D.a4 e) t8 e8 fun c o n1 n2 n3 n4 e => up c o n1 (k5 c o n1 n2 n3 n4 e)

theorem zEnd {b1 b2 : Bool} {z TI TO i1 i2 l1 l2 : Addr} {k : Nat} {xs ys : Array Value} {a b : Value} {Q : Fin → Shared → Prop} (hh : A.handled = none) (D : Off z TI TO i1 i2 l1 l2)
    (hz : IsZip s.heap z TI TO .none) (hi : IsPair s.heap TI (.ref i1) (.ref i2)) (ho : IsPair s.heap TO a b)
    (d1 : Dr b1 s.heap i1 l1 k) (d2 : Dr b2 s.heap i2 l2 k) (q1 : Sq b1 s.heap l1 xs) (q2 : Sq b2 s.heap l2 ys) (hn : xs[k]? = none ∨ ys[k]? = none)
    (r : ∀ g e, (∀ c o, c ≠ z → c ≠ TO → c ≠ i1 → c ≠ i2 → s.heap.get? c = some o → g.get? c = some o) → (∃ o, g.get? e = some o ∧ o.cls = .type "StopIteration") → E (.ref e) { s with heap := g }) :
    wpAny (model prog w) A (Builtin.«zip.__next__» ⟨[.ref z], []⟩) Q E s := by
  show wpAny _ _ (field (.ref z) 2 >>= _) _ _ _
  refine wpAny_bind (wpAny_field hz rfl (x := .bool false) rfl ?_)
  show wpAny _ _ (field (.ref z) 3 >>= _) _ _ _
  refine wpAny_bind (wpAny_field hz rfl (x := .ref TI) rfl (wpAny_bind (wpAny_seqItems hi rfl ?_)))
  show wpAny _ _ (Builtin.SmallTypes.ownedTupleIsFree (.ref z) >>= _) _ _ _
  refine wpAny_bind ?_
  unfold Builtin.SmallTypes.ownedTupleIsFree
  refine wpAny_bind (wpAny_field hz rfl (x := .none) rfl (wpAny_pure ?_))
  simp only [if_true]
  refine wpAny_bind (wpAny_rule (wpAny_bind (wpAny_field hz rfl (x := .ref TO) rfl (wpAny_bind (wpAny_setField_rec hz (by simp) fun g1 z1 s1 => ?_)))))
  have z1 : IsZip g1 z TI TO .ellipsis := z1
  refine wpAny_bind ?_
  simp only [List.zipIdx_cons, List.zipIdx_nil, List.forIn_cons, List.forIn_nil]
  refine wpAny_bind (wpAny_bind (wpAny_onRaise ?_))
  show wpAny _ _ (Builtin.SmallTypes.nextOf (.ref i1) >>= _) _ _ _
  cases hx : xs[k]? with
  | none =>
    refine wpAny_bind (drEnd hh (d1.ext s1.extBut D.a3) (q1.ext s1.extBut D.c1) hx fun g2 e s2 he => ?_)
    obtain ⟨oe, hoe, ce⟩ := he
    have z2 : IsZip g2 z TI TO .ellipsis := s2 _ _ D.a3.symm z1
    have ne : e ≠ z := fun q => by subst q; rw [z2] at hoe; cases hoe; simp at ce
    exact wpAny_setField_rec z2 (by simp) fun g3 _ s3 => r g3 e (fun c o n1 _ n3 _ q => s3.extBut _ _ n1 (s2 _ _ n3 (s1.extBut _ _ n1 q))) ⟨oe, s3.extBut _ _ ne hoe, ce⟩
  | some x =>
    have hy : ys[k]? = none := by
      rcases hn with h | h
      · rw [hx] at h; cases h
      · exact h
    refine wpAny_bind (drNext (d1.ext s1.extBut D.a3) (q1.ext s1.extBut D.c1) hx fun g2 w2 s2 => wpAny_pure ?_)
    have o2 : IsPair g2 TO a b := s2.extBut _ _ D.a8 (s1.extBut _ _ D.a2 ho)
    refine wpAny_bind (wpAny_seqItems o2 rfl (wpAny_bind (wpAny_updateSeq_pair o2 fun g3 o3 s3 => ?_)))
    refine wpAny_bind (wpAny_letGo (wpAny_pure (wpAny_bind (wpAny_bind (wpAny_onRaise ?_)))))
    show wpAny _ _ (Builtin.SmallTypes.nextOf (.ref i2) >>= _) _ _ _
    refine wpAny_bind (drEnd hh (((d2.ext s1.extBut D.a4).ext s2.extBut D.b1.symm).ext s3.extBut D.a9.symm) (((q2.ext s1.extBut D.e1).ext s2.extBut D.e3).ext s3.extBut D.e2) hy fun g4 e s4 he => ?_)
    obtain ⟨oe, hoe, ce⟩ := he
    have z4 : IsZip g4 z TI TO .ellipsis := s4 _ _ D.a4.symm (s3.extBut _ _ D.a2.symm (s2.extBut _ _ D.a3.symm z1))
    have ne : e ≠ z := fun q => by subst q; rw [z4] at hoe; cases hoe; simp at ce
    exact wpAny_setField_rec z4 (by simp) fun g5 _ s5 => r g5 e (fun c o n1 n2 n3 n4 q => s5.extBut _ _ n1 (s4 _ _ n4 (s3.extBut _ _ n2 (s2.extBut _ _ n3 (s1.extBut _ _ n1 q))))) ⟨oe, s5.extBut _ _ ne hoe, ce⟩

theorem pyNext_item {b1 b2 : Bool} {z TI TO i1 i2 l1 l2 : Addr} {k : Nat} {xs ys : Array Value} {x y a b : Value} {Q : Option Value → Shared → Prop} (D : Off z TI TO i1 i2 l1 l2)
    (hz : IsZip s.heap z TI TO .none) (hi : IsPair s.heap TI (.ref i1) (.ref i2)) (ho : IsPair s.heap TO a b)
    (d1 : Dr b1 s.heap i1 l1 k) (d2 : Dr b2 s.heap i2 l2 k) (q1 : Sq b1 s.heap l1 xs) (q2 : Sq b2 s.heap l2 ys) (hx : xs[k]? = some x) (hy : ys[k]? = some y)
    (r : ∀ g, IsZip g z TI TO (rawInt s.heap.objs.size) → IsPair g TO x y → Dr b1 g i1 l1 (k + 1) → Dr b2 g i2 l2 (k + 1) → IsPair g s.heap.objs.size x y → g.objs.size = s.heap.objs.size + 1 →
      (∀ c o, c ≠ z → c ≠ TO → c ≠ i1 → c ≠ i2 → s.heap.get? c = some o → g.get? c = some o) → Q (some (.ref s.heap.objs.size)) { s with heap := g }) :
    wpAny (model prog w) A (pyNext (.ref z)) Q E s := by
  have hT : s.TypeIs (.ref z) "zip" := ⟨_, hz, rfl⟩
  unfold pyNext
  refine wpAny_bind (wpAny_attempt (wpAny_callSpecial?_slot (name := Str.ofString "__next__") hT F.slot_zip_next (wpAny_call_entry F.slot_zip_next hT F.entry_zip_next ?_ (F.args_zip_next_1 _))))
  exact zNext D hz hi ho d1 d2 q1 q2 hx hy fun g p1 p2 p3 p4 p5 p6 p7 => wpAny_pure (r g p1 p2 p3 p4 p5 p6 p7)
theorem pyNext_end {b1 b2 : Bool} {z TI TO i1 i2 l1 l2 : Addr} {k : Nat} {xs ys : Array Value} {a b : Value} {Q : Option Value → Shared → Prop} (hh : A.handled = none) (D : Off z TI TO i1 i2 l1 l2)
    (hz : IsZip s.heap z TI TO .none) (hi : IsPair s.heap TI (.ref i1) (.ref i2)) (ho : IsPair s.heap TO a b)
    (d1 : Dr b1 s.heap i1 l1 k) (d2 : Dr b2 s.heap i2 l2 k) (q1 : Sq b1 s.heap l1 xs) (q2 : Sq b2 s.heap l2 ys) (hn : xs[k]? = none ∨ ys[k]? = none)
    (r : ∀ g, (∀ c o, c ≠ z → c ≠ TO → c ≠ i1 → c ≠ i2 → s.heap.get? c = some o → g.get? c = some o) → Q none { s with heap := g }) : wpAny (model prog w) A (pyNext (.ref z)) Q E s := by
  have hT : s.TypeIs (.ref z) "zip" := ⟨_, hz, rfl⟩
  unfold pyNext
  refine wpAny_bind (wpAny_attempt (wpAny_callSpecial?_slot (name := Str.ofString "__next__") hT F.slot_zip_next (wpAny_call_entry F.slot_zip_next hT F.entry_zip_next (zEnd hh D hz hi ho d1 d2 q1 q2 hn fun g e k he => ?_) (F.args_zip_next_1 _))))
  obtain ⟨o, he, hc⟩ := he
  exact wpAny_bind (wpAny_isInstance (T := "StopIteration") (b := true) ⟨o, he, hc⟩ isSubtype_stop (wpAny_pure (r _ k)))

end
def nm (b : Bool) : String := if b = true then "tuple_iterator" else "list_iterator"
abbrev Z1 (h : Heap) (b1 : Bool) (l1 : Addr) : Heap := h.push { cls := .type (nm b1), data := .fields #[.ref l1, .int 0 0] }
abbrev Z2 (h : Heap) (b1 b2 : Bool) (l1 l2 : Addr) : Heap := (Z1 h b1 l1).push { cls := .type (nm b2), data := .fields #[.ref l2, .int 0 0] }
abbrev Z3 (h : Heap) (b1 b2 : Bool) (l1 l2 : Addr) : Heap := (Z2 h b1 b2 l1 l2).push { cls := .type "tuple", data := .seq #[.ref h.objs.size, .ref (Z1 h b1 l1).objs.size] }
abbrev Z4 (h : Heap) (b1 b2 : Bool) (l1 l2 : Addr) : Heap := (Z3 h b1 b2 l1 l2).push { cls := .type "tuple", data := .seq #[.none, .none] }
abbrev Z5 (h : Heap) (b1 b2 : Bool) (l1 l2 : Addr) : Heap := (Z4 h b1 b2 l1 l2).push { cls := .type "zip", data := .fields #[.none, .bool false, .bool false, .ref (Z2 h b1 b2 l1 l2).objs.size, .ref (Z3 h b1 b2 l1 l2).objs.size] }
set_option maxHeartbeats 4000000 in
theorem new_zip (b1 b2 : Bool) (l1 l2 : Addr) (xs ys : Array Value) :
    Meets (Builtin.«zip.__new__» ⟨[.type "zip", .ref l1, .ref l2], []⟩) (fun _ R s => Sq b1 s.heap l1 xs ∧ Sq b2 s.heap l2 ys ∧ R (.ok (.ret (.ref (Z4 s.heap b1 b2 l1 l2).objs.size))) { s with heap := Z5 s.heap b1 b2 l1 l2 }) :=
  .of_wp fun prog w A R s h => by
    obtain ⟨hp, g, d, tk, os⟩ := s
    obtain ⟨q1, q2, h⟩ := h
    have hsub := sub_zip
    cases b1 with
    | false =>
      have p1 : Heap.IsList (Shared.heap ⟨hp, g, d, tk, os⟩) l1 xs := q1
      cases b2 with
      | false =>
        have p2 : Heap.IsList (Shared.heap ⟨hp.push { cls := .type "list_iterator", data := .fields #[.ref l1, .int 0 0] }, g, d, tk, os⟩) l2 ys := Heap.IsList.push q2 _
        wp_walk using wpAny_pyIter_list p1, wpAny_pyIter_list p2
        exact ⟨_, rfl, h⟩
      | true =>
        have p2 : Heap.IsTuple (Shared.heap ⟨hp.push { cls := .type "list_iterator", data := .fields #[.ref l1, .int 0 0] }, g, d, tk, os⟩) l2 ys := Heap.IsTuple.push q2 _
        wp_walk using wpAny_pyIter_list p1, wpAny_pyIter_tuple p2
        exact ⟨_, rfl, h⟩
    | true =>
      have p1 : Heap.IsTuple (Shared.heap ⟨hp, g, d, tk, os⟩) l1 xs := q1
      cases b2 with
      | false =>
        have p2 : Heap.IsList (Shared.heap ⟨hp.push { cls := .type "tuple_iterator", data := .fields #[.ref l1, .int 0 0] }, g, d, tk, os⟩) l2 ys := Heap.IsList.push q2 _
        wp_walk using wpAny_pyIter_tuple p1, wpAny_pyIter_list p2
        exact ⟨_, rfl, h⟩
      | true =>
        have p2 : Heap.IsTuple (Shared.heap ⟨hp.push { cls := .type "tuple_iterator", data := .fields #[.ref l1, .int 0 0] }, g, d, tk, os⟩) l2 ys := Heap.IsTuple.push q2 _
        wp_walk using wpAny_pyIter_tuple p1, wpAny_pyIter_tuple p2
        exact ⟨_, rfl, h⟩
section
variable {prog : Program} {w : World} {A : Around} {E : Value → Shared → Prop} {s : Shared}
theorem call_zip {b1 b2 : Bool} {l1 l2 : Addr} {xs ys : Array Value} {Q : Value → Shared → Prop} (q1 : Sq b1 s.heap l1 xs) (q2 : Sq b2 s.heap l2 ys)
    (r : ∀ g, IsZip g (s.heap.objs.size + 4) (s.heap.objs.size + 2) (s.heap.objs.size + 3) .none → IsPair g (s.heap.objs.size + 2) (.ref s.heap.objs.size) (.ref (s.heap.objs.size + 1)) → IsPair g (s.heap.objs.size + 3) .none .none →
        Dr b1 g s.heap.objs.size l1 0 → Dr b2 g (s.heap.objs.size + 1) l2 0 → g.objs.size = s.heap.objs.size + 5 → (∀ c o, s.heap.get? c = some o → g.get? c = some o) → Q (.ref (s.heap.objs.size + 4)) { s with heap := g }) :
    wpAny (model prog w) A (call (.type "zip") [.ref l1, .ref l2]) Q E s := by
  refine callType_new F.called_zip (by decide) (F.typeCall_zip_2 _ _) (F.newCall_zip_2 _ _) (fun obj => F.args_object_init_3 obj _ _) F.entry_zip_new (new_zip b1 b2 l1 l2 xs ys) ⟨q1, q2, ?_⟩
  have z1 : (Z1 s.heap b1 l1).objs.size = s.heap.objs.size + 1 := Heap.size_push ..
  have z2 : (Z2 s.heap b1 b2 l1 l2).objs.size = s.heap.objs.size + 2 := by rw [Heap.size_push, z1]
  have z3 : (Z3 s.heap b1 b2 l1 l2).objs.size = s.heap.objs.size + 3 := by rw [Heap.size_push, z2]
  have z4 : (Z4 s.heap b1 b2 l1 l2).objs.size = s.heap.objs.size + 4 := by rw [Heap.size_push, z3]
  have z5 : (Z5 s.heap b1 b2 l1 l2).objs.size = s.heap.objs.size + 5 := by rw [Heap.size_push, z4]
  have u5 : ∀ c o, (Z4 s.heap b1 b2 l1 l2).get? c = some o → (Z5 s.heap b1 b2 l1 l2).get? c = some o := fun c o e => Heap.get?_push_of_some _ e
  have u4 : ∀ c o, (Z3 s.heap b1 b2 l1 l2).get? c = some o → (Z5 s.heap b1 b2 l1 l2).get? c = some o := fun c o e => u5 c o (Heap.get?_push_of_some _ e)
  have u3 : ∀ c o, (Z2 s.heap b1 b2 l1 l2).get? c = some o → (Z5 s.heap b1 b2 l1 l2).get? c = some o := fun c o e => u4 c o (Heap.get?_push_of_some _ e)
  have u2 : ∀ c o, (Z1 s.heap b1 l1).get? c = some o → (Z5 s.heap b1 b2 l1 l2).get? c = some o := fun c o e => u3 c o (Heap.get?_push_of_some _ e)
  have g5 : (Z5 s.heap b1 b2 l1 l2).get? (Z4 s.heap b1 b2 l1 l2).objs.size = some _ := Heap.get?_push_size _ rfl
  have g4 := u5 (Z3 s.heap b1 b2 l1 l2).objs.size _ (Heap.get?_push_size _ rfl)
  have g3 := u4 (Z2 s.heap b1 b2 l1 l2).objs.size _ (Heap.get?_push_size _ rfl)
  have g2 := u3 (Z1 s.heap b1 l1).objs.size _ (Heap.get?_push_size _ rfl)
  have g1 := u2 s.heap.objs.size _ (Heap.get?_push_size _ rfl)
  show _ ∧ _
  rw [z2, z3, z4] at g5
  rw [z1, z2] at g3
  rw [z3] at g4
  rw [z1] at g2
  rw [z4]
  refine ⟨⟨_, g5, rfl⟩, r _ g5 g3 g4 ?_ ?_ z5 fun c o e => u2 c o (Heap.get?_push_of_some _ e)⟩
  · cases b1 with
    | true => exact ⟨_, g1, rfl, rfl⟩
    | false => exact ⟨_, g1, rfl, rfl⟩
  · cases b2 with
    | true => exact ⟨_, g2, rfl, rfl⟩
    | false => exact ⟨_, g2, rfl, rfl⟩
end
end ZG

/-! OWN RULES 1: a list comprehension of one clause -/
namespace L2
open PySem PySem.Spec PyProof.Rows

/-- the cells that a block takes over, in the order in which they are gathered -/
def cloOf (env : Env) : List (Str × NameKind) → List (Str × Addr) → List (Str × Addr)
  | [], cs => cs
  | x :: r, cs => cloOf env r (if (x.2 == NameKind.free) = true then (x.1, (env.cells.lookup x.1).getD 0) :: cs else cs)
theorem forIn_cl {env : Env} (f : Str × NameKind → List (Str × Addr) → Sem (ForInStep (List (Str × Addr)))) (hf : ∀ n k cs, f (n, k) cs = if (k == NameKind.free) = true then (do let a ← cellOf env n; pure (ForInStep.yield ((n, a) :: cs))) else pure (ForInStep.yield cs)) :
    ∀ (names : List (Str × NameKind)) (cs : List (Str × Addr)), (∀ x ∈ names, x.2 = .free → ∃ c, env.cells.lookup x.1 = some c) → forIn names cs f = pure (cloOf env names cs)
  | [], cs, _ => by rw [List.forIn_nil]; rfl
  | (n, k) :: r, cs, h => by
    rw [List.forIn_cons, hf]
    have hr : ∀ x ∈ r, x.2 = .free → ∃ c, env.cells.lookup x.1 = some c := fun x hx => h x (List.mem_cons_of_mem _ hx)
    by_cases e : (k == NameKind.free) = true
    · obtain ⟨c, hc⟩ := h (n, k) List.mem_cons_self (by simpa using e)
      have hc' : env.cells.lookup n = some c := hc
      rw [if_pos e]
      have q : cellOf env n = pure c := by unfold cellOf; rw [hc']
      rw [q, pure_bind, pure_bind]
      show forIn r ((n, c) :: cs) f = pure (cloOf env ((n, k) :: r) cs)
      rw [forIn_cl f hf r _ hr]
      unfold cloOf
      rw [if_pos e, hc']
      cases r <;> rfl
    · rw [if_neg e, pure_bind]
      show forIn r cs f = pure (cloOf env ((n, k) :: r) cs)
      rw [forIn_cl f hf r _ hr]
      conv => rhs; unfold cloOf
      rw [if_neg e]
theorem closure_eq {sc : Scope} {env : Env} (h : ∀ x ∈ sc.names, x.2 = .free → ∃ c, env.cells.lookup x.1 = some c) : closureFor sc env = pure (cloOf env sc.names []) := by
  unfold closureFor
  show (forIn sc.names [] _ >>= fun cs => pure cs) = _
  rw [forIn_cl (env := env) _ (fun n k cs => by cases e : k == NameKind.free <;> simp [e]) sc.names [] h]
  rfl
theorem clo_some {env : Env} : ∀ {names : List (Str × NameKind)} {cs : List (Str × Addr)} {x : Str} {c : Addr}, (∀ y ∈ names, y.2 = .free → ∃ c, env.cells.lookup y.1 = some c) → (cloOf env names cs).lookup x = some c →
    (env.cells.lookup x = some c ∧ (x, NameKind.free) ∈ names) ∨ cs.lookup x = some c
  | [], cs, x, c, _, h => .inr h
  | (n, k) :: r, cs, x, c, hn, h => by
    unfold cloOf at h
    have hr : ∀ y ∈ r, y.2 = .free → ∃ c, env.cells.lookup y.1 = some c := fun y hy => hn y (List.mem_cons_of_mem _ hy)
    have hh := clo_some hr h
    clear h
    rcases hh with ⟨h1, h2⟩ | h
    · exact .inl ⟨h1, List.mem_cons_of_mem _ h2⟩
    · by_cases e : (k == NameKind.free) = true
      · rw [if_pos e] at h
        obtain ⟨c', hc⟩ := hn (n, k) List.mem_cons_self (by simpa using e)
        have hc' : env.cells.lookup n = some c' := hc
        rw [hc', List.lookup_cons] at h
        by_cases ex : (x == n) = true
        · rw [ex] at h
          have ex' : x = n := by simpa using ex
          have ek : k = NameKind.free := by simpa using e
          subst ex' ek
          have h' : c' = c := Option.some.inj h
          subst h'
          exact .inl ⟨hc', List.mem_cons_self⟩
        · have ex' : (x == n) = false := by simpa using ex
          rw [ex'] at h
          exact .inr h
      · rw [if_neg e] at h
        exact .inr h
theorem clo_keep {env : Env} : ∀ {names : List (Str × NameKind)} {cs : List (Str × Addr)} {x : Str} {c : Addr}, (∀ y ∈ names, y.2 = .free → ∃ c, env.cells.lookup y.1 = some c) → env.cells.lookup x = some c → cs.lookup x = some c → (cloOf env names cs).lookup x = some c
  | [], cs, x, c, _, _, h => h
  | (n, k) :: r, cs, x, c, hn, he, h => by
    unfold cloOf
    refine clo_keep (fun y hy => hn y (List.mem_cons_of_mem _ hy)) he ?_
    by_cases e : (k == NameKind.free) = true
    · rw [if_pos e, List.lookup_cons]
      by_cases ex : (x == n) = true
      · rw [ex]
        have ex' : x = n := by simpa using ex
        subst ex'
        show some ((env.cells.lookup x).getD 0) = some c
        rw [he]; rfl
      · have ex' : (x == n) = false := by simpa using ex
        rw [ex']
        exact h
    · rw [if_neg e]
      exact h
theorem clo_has {env : Env} : ∀ {names : List (Str × NameKind)} {cs : List (Str × Addr)} {x : Str} {c : Addr}, (∀ y ∈ names, y.2 = .free → ∃ c, env.cells.lookup y.1 = some c) → env.cells.lookup x = some c → (x, NameKind.free) ∈ names → (cloOf env names cs).lookup x = some c
  | (n, k) :: r, cs, x, c, hn, he, hm => by
    have hr : ∀ y ∈ r, y.2 = .free → ∃ c, env.cells.lookup y.1 = some c := fun y hy => hn y (List.mem_cons_of_mem _ hy)
    unfold cloOf
    rcases List.mem_cons.mp hm with e | hm
    · obtain ⟨rfl, rfl⟩ := Prod.mk.inj e
      rw [if_pos (by rfl)]
      refine clo_keep hr he ?_
      rw [List.lookup_cons, beq_self_eq_true]
      show some ((env.cells.lookup x).getD 0) = some c
      rw [he]; rfl
    · exact clo_has hr he hm

/-- the block's names, as it runs: a name that the def holds in a cell is a cell here too -/
def relab (env : Env) (sc : Scope) : Scope := { sc with names := sc.names.map fun x => if (x.2 == .free && env.scope.kind == .function && env.kindOf x.1 == some .cell) = true then (x.1, .cell) else (x.1, x.2) }
theorem relab_lookup {f : Str × NameKind → Bool} (x : Str) : ∀ names : List (Str × NameKind), (names.map fun y => if f y = true then (y.1, NameKind.cell) else (y.1, y.2)).lookup x = (names.lookup x).map fun k => if f (x, k) = true then .cell else k
  | [] => rfl
  | (n, k) :: r => by
    rw [List.map_cons]
    by_cases ex : (x == n) = true
    · have ex' : x = n := by simpa using ex
      subst ex'
      cases e : f (x, k) <;> simp [e, List.lookup_cons]
    · have ex' : (x == n) = false := by simpa using ex
      have ih := relab_lookup (f := f) x r
      cases e : f (n, k) <;> simp only [e, if_true, if_false, Bool.false_eq_true, List.lookup_cons, ex', ih]
theorem relab_at (env : Env) (sc : Scope) (x : Str) : (relab env sc).names.lookup x = (sc.names.lookup x).map fun k => if (k == .free && env.scope.kind == .function && env.kindOf x == some .cell) = true then .cell else k :=
  relab_lookup (f := fun y => (y.2 == .free && env.scope.kind == .function && env.kindOf y.1 == some .cell)) x sc.names

/-- the block's environment -/
def compEnv (env : Env) (sc : Scope) (L : Addr) : Env := { newEnv sc L env.globals (cloOf env sc.names []) env.qual none .none (some env) builtinsNs with scope := relab env sc }

section
variable {M : Model} {A : Around} {E : Value → Shared → Prop} {s : Shared} {env : Env}
/-- the comprehension, opened -/
theorem comprehension_ok {e : Expr} {scope : Scope} {pos : Pos} {newAcc first : Sem Value} {g : Comprehension} {gs : List Comprehension} {Q : Value → Shared → Prop}
    (hcl : clausesOf e = g :: gs) (hs : ∀ x, foldedSetIterable g.iter env x = pure x)
    (hc : ∀ x ∈ scope.names, x.2 ≠ .cell) (hfr : ∀ x ∈ scope.names, x.2 = .free → ∃ c, env.cells.lookup x.1 = some c) (hkind : scope.kind = .function) (hnames : ∀ x ∈ scope.names, x.2 = .local → scope.names.lookup x.1 = some .local)
    (h : wpAny M A first (fun x s₁ => wpAny M A (pyIter x) (fun it s₂ => wpAny M A newAcc (fun acc s₃ =>
      ∀ h4, h4.Ns s₃.heap.objs.size (fun _ => none) → (∀ b o, s₃.heap.get? b = some o → h4.get? b = some o) →
        codeAny M A (.compStart e 0 it acc (compEnv env scope s₃.heap.objs.size)) (fun r s' => ∃ m, s'.heap.Ns s₃.heap.objs.size m ∧ ∀ h', Heap.SameBut s₃.heap.objs.size s'.heap h' →
          match r with | .ok _ => Q acc { s' with heap := h' } | .error x => False) { s₃ with heap := h4 }) E s₂) E s₁) E s) :
    wpAny M A (comprehension e scope env pos newAcc false first) Q E s := by
  unfold comprehension
  rw [closure_eq hfr, hcl]
  refine wpAny_bind (wpAny_mono h (fun x s₁ h₁ => wpAny_bind (wpAny_standAt (wpAny_bind (wpAny_of_eq (hs x) (wpAny_bind (wpAny_holding (wpAny_mono h₁ (fun it s₂ h₂ =>
    wpAny_standIf (wpAny_bind (wpAny_mono h₂ (fun acc s₃ h₃ => wpAny_bind (wpAny_pure (wpAny_bind ?_))) fun _ _ h' => h')))
      fun _ _ h' => h'))))))) fun _ _ h' => h')
  refine wpAny_newFunctionEnv hc (fun x hx => nomatch hx) (fun h4 hn4 hs4 => ?_) hkind
  have h₄ := h₃ h4 hn4 fun b o e => hs4.extBut b o (Nat.ne_of_lt (Heap.lt_size e)) (Heap.get?_push_of_some _ e)
  dsimp only
  have hv : ∀ x ∈ (scope.names.filter fun x => (x.2 == .local || x.2 == .cell) && x.1 != (".0" : Str)).reverse, x.2 = .local →
      Env.kindOf (compEnv env scope s₃.heap.objs.size) x.1 = some .local := fun x hx hl => by
    show (relab env scope).names.lookup x.1 = some .local
    rw [relab_at, hnames x (List.mem_filter.mp (List.mem_reverse.mp hx)).1 hl]
    rfl
  refine wpAny_holding (wpAny_bind (wpAny_attempt (wpAny_holding (wpAny_run (codeAny_mono h₄ fun r s' hr => ?_)))))
  obtain ⟨m, hn, hr⟩ := hr
  cases r with
  | ok f => exact wpAny_bind (wpAny_holding (wpAny_comp_letGo (cenv := compEnv env scope s₃.heap.objs.size) hkind _ s' m hv hn fun h' m' _ hs' => wpAny_pure (hr h' hs')))
  | error x => exact (hr s'.heap (.refl ..)).elim
end

section
variable {prog : Program} {w : World} {A : Around} {R : Result → Shared → Prop} {s : Shared}
theorem compLoop_ok {elt target iter : Expr} {ifs : List Expr} {scope : Scope} {pos : Pos} {it acc : Value} {env : Env} (I : Nat → Shared → Prop)
    (turn : ∀ n s, I n s → wpAny (model prog w) A (pyNext it) (fun r s₁ => match r with
      | none => R (.ok .next) s₁
      | some v => wpAny (model prog w) A (letOwnedTupleGo target it v) (fun _ s₁' => wpAny (model prog w) A (assign target env v) (fun _ s₂ =>
          wpAny (model prog w) A (forIn ifs true fun c r => if r = true then do let ok ← isTrue c env (eval c env); pure (ForInStep.yield ok) else pure (ForInStep.yield r)) (fun ok s₃ =>
            if ok = true then wpAny (model prog w) A (eval elt env) (fun x s₄ =>
              wpAny (model prog w) A (call (.builtin "list.append") [acc, x]) (fun _ s₅ => ∃ m, m < n ∧ I m s₅) (fun _ _ => False) s₄) (fun _ _ => False) s₃
            else ∃ m, m < n ∧ I m s₃) (fun _ _ => False) s₂) (fun _ _ => False) s₁') (fun _ _ => False) s₁) (fun _ _ => False) s)
    (n : Nat) (h : I n s) :
    codeAny (model prog w) A (.compLoop (.ListComp elt [⟨target, iter, ifs, 0⟩] scope pos) 0 it acc env) R s := by
  refine codeAny_loop rfl I (fun n s hI => ?_) n h
  show wpAny _ A ((compTurn (.ListComp elt [⟨target, iter, ifs, 0⟩] scope pos) 0 it acc env).onRaise (fun x => do noteFrame x env; theTreesLotGoes x)) _ _ s
  refine wpAny_noted ?_
  rw [compTurn_list]
  refine wpAny_bind (wpAny_standAt (wpAny_bind (wpAny_mono (turn n s hI) (fun r s₁ h₁ => ?_) fun _ _ h' => h'.elim)))
  cases r with
  | none => exact wpAny_pure h₁
  | some v =>
    refine wpAny_bind (wpAny_mono h₁ (fun _ s₁' h₁' => ?_) fun _ _ h' => h'.elim)
    refine wpAny_bind (wpAny_mono h₁' (fun _ s₂ h₂ => wpAny_bind (wpAny_mono h₂ (fun ok s₃ h₃ => ?_) fun _ _ h' => h'.elim)) fun _ _ h' => h'.elim)
    cases ok with
    | false => exact wpAny_pure ⟨rfl, h₃⟩
    | true =>
      exact wpAny_bind (wpAny_bind (wpAny_mono h₃ (fun x s₄ h₄ => wpAny_bind (wpAny_mono h₄ (fun _ s₅ h₅ => wpAny_pure (wpAny_pure ⟨rfl, h₅⟩)) fun _ _ h' => h'.elim)) fun _ _ h' => h'.elim))
end

/-! ### the block's context -/
def cxComp (X : Cx) (N' : List Str) (sc : Scope) (s3 : Shared) (H3 : Hp) (fp : List Addr) : Cx where
  prog := X.prog
  w := X.w
  K := X.K
  mg := X.mg
  base := X.base
  A := X.A
  N := N'
  s₀ := s3
  H₀ := H3
  env := compEnv X.env sc s3.heap.objs.size
  outer := X.stack
  stack := X.stack
  ex := fp
  calm := true
  fn := fun _ => false
  pn := []
  xe := fun _ _ => False
/-- the tables fit: the def's names N and table, the block's table; N' the block's names, fr: where in N a name of N' that is taken over stands -/
def compOk (N : List Str) (esc sc : Scope) (N' : List Str) (fr : List (Option Nat)) : Bool :=
  sc.kind == .function && esc.kind == .function
  && sc.names.all (fun y => (y.2 != .cell) && (y.2 != .free || esc.names.lookup y.1 == some .cell) && (y.2 != .local || sc.names.lookup y.1 == some .local))
  && fr.length == N'.length
  && (List.range N'.length).all (fun i => match fr[i]? with
    | some (some j) => match N'[i]? with
      | some x => N[j]? == some x && sc.names.lookup x == some .free
      | none => false
    | _ => true)
structure CompOk (N : List Str) (esc sc : Scope) (N' : List Str) (fr : List (Option Nat)) : Prop where
  kind : sc.kind = .function
  ekind : esc.kind = .function
  nocell : ∀ x ∈ sc.names, x.2 ≠ .cell
  free : ∀ x ∈ sc.names, x.2 = .free → esc.names.lookup x.1 = some .cell
  names : ∀ x ∈ sc.names, x.2 = .local → sc.names.lookup x.1 = some .local
  len : fr.length = N'.length
  at_ : ∀ (i j : Nat) (x : Str), fr[i]? = some (some j) → N'[i]? = some x → N[j]? = some x ∧ sc.names.lookup x = some .free
theorem compOk_of {N : List Str} {esc sc : Scope} {N' : List Str} {fr : List (Option Nat)} (h : compOk N esc sc N' fr = true) : CompOk N esc sc N' fr := by
  unfold compOk at h
  simp only [Bool.and_eq_true, beq_iff_eq, List.all_eq_true, List.mem_range] at h
  obtain ⟨⟨⟨⟨h1, h2⟩, h3⟩, h4⟩, h5⟩ := h
  refine ⟨h1, h2, fun x hx => ?_, fun x hx e => ?_, fun x hx e => ?_, h4, fun i j x e1 e2 => ?_⟩
  · have := (h3 x hx).1.1
    simpa using this
  · have := (h3 x hx).1.2
    rw [e] at this
    simpa using this
  · have := (h3 x hx).2
    rw [e] at this
    simpa using this
  · have hi : i < N'.length := (List.getElem?_eq_some_iff.mp e2).1
    have q := h5 i hi
    rw [e1, e2] at q
    simpa using q

/-- the block's first state -/
def compSt (fr : List (Option Nat)) (σ : St) : St := fr.map fun o => match o with
  | some j => (σ[j]?).join
  | none => none

theorem comp_inv {X : Cx} {pins : List (Addr × Obj)} {σ : St} {H3 : Hp} {s3 : Shared} {sc : Scope} {N' : List Str} {fr : List (Option Nat)} {fp : List Addr} {h4 : Heap} (I : Inv X pins σ H3 s3) (C : CompOk X.N X.env.scope sc N' fr) (hc : X.calm = true)
    (hfp : ∀ b ∈ fp, FpOk X pins H3 b) (hfo : ∀ b ∈ fp, ∃ o, s3.heap.get? b = some o) (hn : h4.Ns s3.heap.objs.size (fun _ => none)) (hk : ∀ b o, s3.heap.get? b = some o → h4.get? b = some o) :
    Inv (cxComp X N' sc s3 H3 fp) [] (compSt fr σ) H3 { s3 with heap := h4 } := by
  have hfr : ∀ x ∈ sc.names, x.2 = .free → ∃ c, X.env.cells.lookup x.1 = some c := fun x hx e => I.ok.has x.1 (.inl (C.free x hx e))
  have clo : ∀ {x c}, (cloOf X.env sc.names []).lookup x = some c → X.env.cells.lookup x = some c := fun {x c} e => by
    rcases clo_some hfr e with ⟨h1, _⟩ | h
    · exact h1
    · cases h
  have nfs : ∀ b ∈ fp, b ∉ frs X.stack := fun b hb z => by
    obtain ⟨_, h1, h2, _⟩ := hfp b hb
    rcases List.mem_cons.mp (I.stkSub b z) with e | e
    · exact h1 e
    · exact h2 e
  have hfresh : H3 s3.heap.objs.size = none := I.hok.fresh (Nat.le_refl _)
  refine ⟨⟨I.ok.mod, C.kind, I.ok.glob, I.ok.blt, Nat.le_refl _, fun x y c e1 e2 => I.ok.inj x y c (clo e1) (clo e2), fun x hx => ?_, fun x c z => (nomatch z), fun _ => I.ok.hd hc, I.ok.frames, .inl rfl, fun b hb => ⟨?_, fun x c e => ?_⟩, fun b o e => I.bs b o e, Nat.le_trans I.ok.bsz I.sz, fun b o e hb => ?_, nfs, I.stack, I.stkFree⟩,
    rfl, I.bare, Un.kept hk, ⟨_, hn, fun i x v e1 e2 e3 => ?_⟩, fun x c e => ?_, hfresh, fun x c e => I.freeC x c (clo e), fun p hp => (nomatch hp), I.hok.kept hk, ?_⟩
  · have hx : (relab X.env sc).names.lookup x = some .cell ∨ (relab X.env sc).names.lookup x = some .free := hx
    rw [relab_at] at hx
    cases e : sc.names.lookup x with
    | none => rw [e] at hx; rcases hx with z | z <;> cases z
    | some k =>
      have hm : (x, k) ∈ sc.names := PySem.mem_of_lookup e
      have hk : k = .free := by
        rw [e] at hx
        cases k with
        | free => rfl
        | cell => exact absurd rfl (C.nocell _ hm)
        | _ => rcases hx with z | z <;> (simp at z)
      subst hk
      obtain ⟨c, hc'⟩ := hfr _ hm rfl
      exact ⟨c, clo_has hfr hc' hm⟩
  · obtain ⟨o, ho⟩ := hfo b hb
    exact Nat.ne_of_lt (Heap.lt_size ho)
  · exact (hfp b hb).2.2.2.2.1 x c (clo e)
  · obtain ⟨e1, _⟩ := I.ok.bs b o e
    rcases (hfp b hb).2.2.2.1 with z | z
    · exact I.ok.noex b o e z
    · exact absurd (Nat.lt_of_lt_of_le (Heap.lt_size e1) z) (Nat.lt_irrefl _)
  · have e2 : (compSt fr σ)[i]? = some (some v) := e2
    unfold compSt at e2
    rw [List.getElem?_map] at e2
    cases ef : fr[i]? with
    | none => rw [ef] at e2; cases e2
    | some o =>
      rw [ef] at e2
      cases o with
      | none => cases e2
      | some j =>
        have e2' : (σ[j]?).join = some v := by simpa using e2
        have e2'' : σ[j]? = some (some v) := by
          cases q : σ[j]? with
          | none => rw [q] at e2'; cases e2'
          | some z => rw [q] at e2'; exact congrArg some e2'
        obtain ⟨hN, hfrx⟩ := C.at_ i j x ef e1
        have hm : (x, NameKind.free) ∈ sc.names := PySem.mem_of_lookup hfrx
        have hcell := C.free _ hm rfl
        obtain ⟨m, _, hl⟩ := I.loc
        obtain ⟨u, r, l⟩ := hl j x v hN e2'' (.inr (.inl hcell))
        refine ⟨u, r, .inr ⟨.inl ?_, ?_⟩⟩
        · show (relab X.env sc).names.lookup x = some .cell
          rw [relab_at, hfrx]
          have h1 : X.env.kindOf x = some .cell := hcell
          have h2 : X.env.scope.kind = .function := C.ekind
          simp [h1, h2]
        · rcases l with ⟨k, _⟩ | ⟨_, c, ec, ic⟩
          · have h1 : X.env.kindOf x = some .cell := hcell
            rw [h1] at k; cases k
          · obtain ⟨o, ho, hd⟩ := ic
            exact ⟨c, clo_has hfr ec hm, o, hk c o ho, hd⟩
  · obtain ⟨v, o, ho, hd⟩ := I.cell x c (clo e)
    exact ⟨v, o, hk c o ho, hd⟩
  · unfold compSt
    rw [List.length_map]
    exact C.len

def PTs (X : Cx) (ifs : List Expr) (t : TT) : Prop :=
  ∀ (pins : List (Addr × Obj)) (s : Shared) (σ : St) (H : Hp) (Q : Bool → Hp → Prop), Inv X pins σ H s → t σ H Q →
    wpAny (model X.prog X.w) X.A (forIn ifs true fun c r => if r = true then do let ok ← isTrue c X.env (eval c X.env); pure (ForInStep.yield ok) else pure (ForInStep.yield r)) (TP X pins σ Q) X.xe s
def tYes : TT := fun _ H Q => Q true H
theorem pts_nil {X : Cx} : PTs X [] tYes := fun pins s σ H Q I h => wpAny_tests_nil ⟨H, I, h⟩
/-- W: the invariant by the turn, a measure, the block's names; p: the new list -/
def CompB (J : It) (fr : List (Option Nat)) (g : Shared → Hp → List Addr → TG) (tt : Shared → Hp → List Addr → TT) (te : Shared → Hp → List Addr → TE) (σ : St) (H1 : Hp) (Q : VK) : Prop := ∀ p, H1 p = none → ∀ s3 H3' fp, ∃ W : Nat → Nat → St → Hp → Prop, (∃ m, W 0 m (compSt fr σ) (upd H1 p (.lst []))) ∧ ∀ i m σ' H', W i m σ' H' →
  (J.stop i H' ∧ Q (.ref p) H') ∨ (J.go i H' ∧ ∀ x H2, J.yld i H' x H2 → g s3 H3' fp x σ' H2 fun σ2 H3 => tt s3 H3' fp σ2 H3 fun b H4 =>
    if b = true then te s3 H3' fp σ2 H4 fun v H5 => ∃ ys, H5 p = some (.lst ys) ∧ ys.length < sizeLine ∧ ∃ m', m' < m ∧ W (i + 1) m' σ2 (upd H5 p (.lst (ys ++ [v]))) else ∃ m', m' < m ∧ W (i + 1) m' σ2 H4)
def tComp (wi : TI) (fr : List (Option Nat)) (g : Shared → Hp → List Addr → TG) (tt : Shared → Hp → List Addr → TT) (te : Shared → Hp → List Addr → TE) : TE := fun σ H Q => wi σ H fun J H1 => CompB J fr g tt te σ H1 Q

theorem pe_comp {X : Cx} (N' : List Str) (fr : List (Option Nat)) {elt target iter : Expr} {ifs : List Expr} {sc : Scope} {pos : Pos} {wi : TI} {g : Shared → Hp → List Addr → TG} {tt : Shared → Hp → List Addr → TT} {te : Shared → Hp → List Addr → TE} (hc : X.calm = true) (C : compOk X.N X.env.scope sc N' fr = true)
    (hi : PI X target iter wi) (hg : ∀ s3 H3 fp, PG (cxComp X N' sc s3 H3 fp) target (g s3 H3 fp)) (ht : ∀ s3 H3 fp, PTs (cxComp X N' sc s3 H3 fp) ifs (tt s3 H3 fp)) (he : ∀ s3 H3 fp, PE (cxComp X N' sc s3 H3 fp) elt (te s3 H3 fp))
    (hs : ∀ x, foldedSetIterable iter X.env x = pure x := by intro _; rfl) : PE X (.ListComp elt [⟨target, iter, ifs, 0⟩] sc pos) (tComp wi fr g tt te) := by
  have C := compOk_of C
  intro pins s σ H Q I h
  rw [eval_ListComp]
  have hfr : ∀ x ∈ sc.names, x.2 = .free → ∃ c, X.env.cells.lookup x.1 = some c := fun x hx e => I.ok.has x.1 (.inl (C.free x hx e))
  refine comprehension_ok (g := ⟨target, iter, ifs, 0⟩) (gs := []) rfl hs C.nocell hfr C.kind C.names ?_
  show wpAny _ _ (eval iter X.env) _ _ s
  refine thn (hi pins s σ H _ I h) fun v s1 h1 => thn h1 fun itv s2 h2 => ?_
  obtain ⟨it, fp, tn, J, H2, e, I2, T, st2, f2, k2⟩ := h2
  subst e
  refine wpAny_newList ?_ (by show 0 ≤ sizeLine; decide)
  have hf : H2 s2.heap.objs.size = none := I2.hok.fresh (Nat.le_refl _)
  obtain ⟨W, ⟨m0, w0⟩, turn⟩ := k2 _ hf { s2 with heap := s2.heap.push { cls := .type "list", data := .seq ([] : List Value).toArray } } (upd H2 s2.heap.objs.size (.lst [])) fp
  have kp : ∀ b u, s2.heap.get? b = some u → (s2.heap.push { cls := .type "list", data := .seq ([] : List Value).toArray }).get? b = some u := fun b u e => Heap.get?_push_of_some _ e
  have I3 : Inv X pins σ (upd H2 s2.heap.objs.size (.lst [])) { s2 with heap := s2.heap.push { cls := .type "list", data := .seq ([] : List Value).toArray } } :=
    I2.laid (t' := s2.toks) kp (Nat.le_refl _) ⟨Nat.zero_le _, [], 0, .nil, Heap.get?_push_size _ rfl⟩
  have obj2 := T.obj 0 s2.heap st2
  have fpne : ∀ b ∈ fp, b ≠ s2.heap.objs.size := fun b hb => by
    obtain ⟨o, ho, _⟩ := obj2 b hb
    exact Nat.ne_of_lt (Heap.lt_size ho)
  have f3 : ∀ b ∈ fp, FpOk X pins (upd H2 s2.heap.objs.size (.lst [])) b := fun b hb => ⟨by rw [upd_ne (fpne b hb)]; exact (f2 b hb).1, (f2 b hb).2⟩
  have st3 := T.keep 0 s2.heap _ st2 fun b hb o e => kp b o e
  have obj3 := T.obj 0 _ st3
  intro h4 hn4 hk4
  have st4 := T.keep 0 _ h4 st3 fun b hb o e => hk4 b o e
  have I4 := comp_inv (N' := N') (fr := fr) (fp := fp) I3 C hc f3 (fun b hb => let ⟨o, ho, _⟩ := obj3 b hb; ⟨o, ho⟩) hn4 hk4
  -- the iterator's records, in the block
  have stat : ∀ {H' : Hp}, (∀ b ∈ fp, H' b = none) → ∀ b ∈ fp, FpOk (cxComp X N' sc { s2 with heap := s2.heap.push { cls := .type "list", data := .seq ([] : List Value).toArray } } (upd H2 s2.heap.objs.size (.lst [])) fp) [] H' b := fun hn b hb =>
    ⟨hn b hb, (I4.ok.exf b hb).1, I4.ok.exfs b hb, .inl hb, (I4.ok.exf b hb).2, fun p hp => (nomatch hp)⟩
  have loop : codeAny (model X.prog X.w) X.A (.compLoop (.ListComp elt [⟨target, iter, ifs, 0⟩] sc pos) 0 (.ref it) (.ref s2.heap.objs.size) (compEnv X.env sc (s2.heap.push { cls := .type "list", data := .seq ([] : List Value).toArray }).objs.size))
      (fun r s' => ∃ m, s'.heap.Ns (s2.heap.push { cls := .type "list", data := .seq ([] : List Value).toArray }).objs.size m ∧ ∀ h', Heap.SameBut (s2.heap.push { cls := .type "list", data := .seq ([] : List Value).toArray }).objs.size s'.heap h' →
        match r with | .ok _ => EP X pins σ Q (.ref s2.heap.objs.size) { s' with heap := h' } | .error x => False) { s2 with heap := h4 } := by
    refine compLoop_ok (fun n s' => ∃ i σ' H', Inv (cxComp X N' sc { s2 with heap := s2.heap.push { cls := .type "list", data := .seq ([] : List Value).toArray } } (upd H2 s2.heap.objs.size (.lst [])) fp) [] σ' H' s' ∧ tn i s'.heap ∧ (∀ b ∈ fp, H' b = none) ∧ W i n σ' H') ?_ m0
      ⟨0, _, _, I4, st4, fun b hb => (f3 b hb).1, w0⟩
    rintro n s5 ⟨i, σ5, H5, I5, st5, fr5, w5⟩
    rcases turn i n σ5 H5 w5 with ⟨stop, q⟩ | ⟨go, step⟩
    · refine thn (T.done (cxComp X N' sc _ _ fp) rfl rfl rfl rfl i [] s5 σ5 H5 (fun _ _ => False) I5 (stat fr5) st5 stop) fun r s6 ⟨hr, I6⟩ => ?_
      subst hr
      obtain ⟨m6, hn6, _⟩ := id I6.loc
      refine ⟨m6, hn6, fun h' hs' => ?_⟩
      have hL : H5 (s2.heap.push { cls := .type "list", data := .seq ([] : List Value).toArray }).objs.size = none := I6.free
      have hok' : HOk X.prog X.w H5 h' := fun b u e => by
        refine (I6.hok b u e).stay (fun c v hc q => (hs'.2 c ?_).trans q) (fun _ q => q) fun _ _ q => q
        rintro rfl
        rcases hc with rfl | hc
        · rw [hL] at e; cases e
        · rw [hL] at hc; cases hc
      have ub := I6.base
      have lt : ∀ b o, (s2.heap.push { cls := .type "list", data := .seq ([] : List Value).toArray }).get? b = some o → b ≠ (s2.heap.push { cls := .type "list", data := .seq ([] : List Value).toArray }).objs.size := fun b o e => Nat.ne_of_lt (Heap.lt_size e)
      have un : Un (frs X.stack) fp (upd H2 s2.heap.objs.size (.lst [])) H5 (s2.heap.push { cls := .type "list", data := .seq ([] : List Value).toArray }) h' :=
        ⟨fun b o e n hb hx => (hs'.2 b (lt b o e)).trans (ub.keep b o e n hb hx), fun b o e n hb hx => let ⟨sl, z⟩ := ub.slot b o e n hb hx; ⟨sl, (hs'.2 b (lt b o e)).trans z⟩, ub.free,
          fun b o e hx => let ⟨o', z⟩ := ub.there b o e hx; ⟨o', (hs'.2 b (lt b o e)).trans z⟩, ub.tups, ub.frzs, ub.tbls⟩
      refine ⟨.ref s2.heap.objs.size, H5, I3.call' (s' := { s6 with heap := h' }) (ch := fp) I6.os un hok' I6.bare (fun b hb => ?_), rfl, q⟩
      obtain ⟨_, g1, g2, g3, g4, g5⟩ := f3 b hb
      exact ⟨g3, g1, g4, g5⟩
    · refine thn (T.item (cxComp X N' sc _ _ fp) rfl rfl rfl rfl i [] s5 σ5 H5 (fun _ _ => False) I5 (stat fr5) st5 go) fun r s6 ⟨u, hr, h6⟩ => ?_
      subst hr
      refine thn h6 fun _ s7 ⟨x, H7, I7, r7, y7, st7, fr7⟩ => ?_
      have I7' := I7.pinned (stat fr7) (T.obj _ _ st7)
      have again : ∀ {σ8 : St} {H8 : Hp} {s8 : Shared}, Inv (cxComp X N' sc { s2 with heap := s2.heap.push { cls := .type "list", data := .seq ([] : List Value).toArray } } (upd H2 s2.heap.objs.size (.lst [])) fp) ([] ++ pinsAt fp s7.heap) σ8 H8 s8 → (∃ m', m' < n ∧ W (i + 1) m' σ8 H8) →
          ∃ m, m < n ∧ ∃ i σ' H', Inv (cxComp X N' sc { s2 with heap := s2.heap.push { cls := .type "list", data := .seq ([] : List Value).toArray } } (upd H2 s2.heap.objs.size (.lst [])) fp) [] σ' H' s8 ∧ tn i s8.heap ∧ (∀ b ∈ fp, H' b = none) ∧ W i m σ' H' := fun {σ8 H8 s8} I8 ⟨m', hm, w8⟩ => by
        refine ⟨m', hm, i + 1, σ8, H8, I8.unpinned, T.keep _ _ _ st7 fun b hb o e => (I8.pin (b, o) (List.mem_append_right _ (List.mem_append_right _ (mem_pinsAt hb e)))).1, fun b hb => ?_, w8⟩
        obtain ⟨o, e, d⟩ := T.obj _ _ st7 b hb
        exact (I8.pin (b, o) (List.mem_append_right _ (List.mem_append_right _ (mem_pinsAt hb e)))).2.1
      refine thn (hg _ _ fp _ s7 σ5 H7 x u _ I7' r7 (step x H7 y7)) fun _ s8 ⟨σ8, H8, I8, q8⟩ => ?_
      refine thn (ht _ _ fp _ s8 σ8 H8 _ I8 q8) fun ok s9 ⟨H9, I9, q9⟩ => ?_
      cases ok with
      | false => exact again I9 q9
      | true =>
        refine thn (he _ _ fp _ s9 σ8 H9 _ I9 q9) fun y s10 ⟨v, H10, I10, r10, ys, hys, hl, q10⟩ => ?_
        refine thn (mt_append _ s10 σ8 H10 (.ref s2.heap.objs.size) [v] (.ref s2.heap.objs.size) [y] (fun _ H' => ∃ m', m' < n ∧ W (i + 1) m' σ8 H') I10 rfl (.cons r10 .nil) ⟨_, ys, v, rfl, rfl, hys, hl, q10⟩) fun z s11 ⟨_, H11, I11, _, q11⟩ => ?_
        exact again I11 q11
  refine codeAny_compStart_list loop ?_
  exact T.self X.A 0 _ _ _ st4 loop
end L2

/-! OWN RULES 2: zip as a loop's iterable; all, any, isinstance -/
namespace L2
open PySem PySem.Spec PyProof.Rows

/-- a sequence that is read: kind true a tuple, false a list -/
def SqG (b : Bool) (K : PySem.W.Frag) (H : Hp) (a : Addr) (xs : List V) : Prop := match b with
  | true => SqT K H a xs
  | false => SqL K H a xs
section
variable {X : Cx} {pins : List (Addr × Obj)} {σ : St} {H : Hp} {s : Shared}
theorem Inv.sq (I : Inv X pins σ H s) {b : Bool} {a : Addr} {xs : List V} (h : SqG b X.K H a xs) : ∃ its : List Value, Vals xs its ∧ ZG.Sq b s.heap a its.toArray ∧ xs.length ≤ sizeLine := by
  cases b with
  | true => exact I.tuple h
  | false =>
    obtain ⟨its, r, p, z⟩ := I.list h
    exact ⟨its, r, p.isList, z⟩
theorem Inv.sq_inj (I : Inv X pins σ H s) {b : Bool} {a : Addr} {xs ys : List V} (h : SqG b X.K H a xs) (h' : SqG b X.K H a ys) : xs = ys := by
  cases b with
  | true => exact I.tuple_inj h h'
  | false => exact I.list_inj h h'
theorem Inv.rd_ne (I : Inv X pins σ H s) {a b : Addr} {u : HO} (h : Rd H a u) (f : FpOk X pins H b) : a ≠ b := by
  rintro rfl
  rcases h with h | ⟨o, h⟩
  · rw [f.1] at h; cases h
  · rw [f.1] at h; cases h
theorem Inv.k_ne (I : Inv X pins σ H s) {a b : Addr} {o : Obj} (h : X.K.lookup a = some o) (f : FpOk X pins H b) : a ≠ b := by
  rintro rfl
  have e : X.base.get? a = some o := I.ok.mod.kin a o h
  rcases f.2.2.2.1 with z | z
  · exact I.ok.noex a o e z
  · exact absurd (Nat.lt_of_lt_of_le (Heap.lt_size (I.ok.bs a o e).1) z) (Nat.lt_irrefl _)
theorem Inv.sq_ne (I : Inv X pins σ H s) {b : Bool} {a c : Addr} {xs : List V} (h : SqG b X.K H a xs) (f : FpOk X pins H c) : a ≠ c := by
  cases b with
  | true =>
    rcases h with h | ⟨o, its, n, hk, _⟩
    · exact I.rd_ne h f
    · exact I.k_ne hk f
  | false =>
    rcases h with h | ⟨o, its, n, hk, _⟩
    · exact I.rd_ne h f
    · exact I.k_ne hk f
end

/-- two sequences, pair by pair: each turn yields a new tuple -/
def Itz (K : PySem.W.Frag) (b1 : Bool) (a1 : Addr) (b2 : Bool) (a2 : Addr) : It :=
  ⟨fun i H => ∃ xs ys x y, SqG b1 K H a1 xs ∧ SqG b2 K H a2 ys ∧ xs[i]? = some x ∧ ys[i]? = some y,
   fun i H v H' => ∃ p x y, H p = none ∧ v = .ref p ∧ H' = upd H p (.tup [x, y]) ∧ (∀ xs, SqG b1 K H a1 xs → xs[i]? = some x) ∧ ∀ ys, SqG b2 K H a2 ys → ys[i]? = some y,
   fun i H => ∃ xs ys, SqG b1 K H a1 xs ∧ SqG b2 K H a2 ys ∧ (xs.length ≤ i ∨ ys.length ≤ i)⟩
/-- the five records of a zip stand apart -/
structure Off5 (z TI TO i1 i2 : Addr) : Prop where
  a1 : TI ≠ z
  a2 : TO ≠ z
  a3 : i1 ≠ z
  a4 : i2 ≠ z
  a5 : TI ≠ TO
  a6 : TI ≠ i1
  a7 : TI ≠ i2
  a8 : TO ≠ i1
  a9 : TO ≠ i2
  b1 : i1 ≠ i2
theorem turn_zip {P : Program} {w : World} {K : PySem.W.Frag} {es : List Expr} {x1 : Nat} {tp : Pos} (b1 : Bool) (a1 : Addr) (b2 : Bool) (a2 z TI TO i1 i2 : Addr) (D : Off5 z TI TO i1 i2) :
    Turn P w K (.Tuple es x1 tp) (Itz K b1 a1 b2 a2) [z, TI, TO, i1, i2] z (fun i h => IsZip h z TI TO .none ∧ IsPair h TI (.ref i1) (.ref i2) ∧ (∃ a b, IsPair h TO a b) ∧ ZG.Dr b1 h i1 a1 i ∧ ZG.Dr b2 h i2 a2 i) where
  mem := by simp
  obj := fun i h st b hb => by
    obtain ⟨hz, hi, ⟨a, c, ho⟩, d1, d2⟩ := st
    have hb : b = z ∨ b = TI ∨ b = TO ∨ b = i1 ∨ b = i2 := by simpa using hb
    rcases hb with rfl | rfl | rfl | rfl | rfl
    · exact ⟨_, hz, fun v e => by cases (show Data.fields _ = Data.cell v from e)⟩
    · exact ⟨_, hi, fun v e => by cases (show Data.seq _ _ = Data.cell v from e)⟩
    · exact ⟨_, ho, fun v e => by cases (show Data.seq _ _ = Data.cell v from e)⟩
    · exact d1.some
    · exact d2.some
  keep := fun i h h' st k => by
    obtain ⟨hz, hi, ⟨a, c, ho⟩, d1, d2⟩ := st
    exact ⟨k z (by simp) _ hz, k TI (by simp) _ hi, ⟨a, c, k TO (by simp) _ ho⟩, d1.at fun o e => k i1 (by simp) o e, d2.at fun o e => k i2 (by simp) o e⟩
  item := by
    intro X hP hw hK hc i pins s σ H E I hf st hg
    subst hP hw hK
    obtain ⟨xs, ys, x, y, q1, q2, hx, hy⟩ := hg
    obtain ⟨its, rv, p1, z1⟩ := I.sq q1
    obtain ⟨jts, sv, p2, z2⟩ := I.sq q2
    obtain ⟨u, hu, ru⟩ := rv.get hx
    obtain ⟨v, hv, rw'⟩ := sv.get hy
    obtain ⟨hz, hi, ⟨a, c, ho⟩, d1, d2⟩ := st
    have fz := hf z (by simp)
    have fTI := hf TI (by simp)
    have fTO := hf TO (by simp)
    have f1 := hf i1 (by simp)
    have f2 := hf i2 (by simp)
    have DD : ZG.Off z TI TO i1 i2 a1 a2 := ⟨D.a1, D.a2, D.a3, D.a4, D.a5, D.a6, D.a7, D.a8, D.a9, D.b1, I.sq_ne q1 fz, I.sq_ne q1 fTO, I.sq_ne q1 f1, I.sq_ne q1 f2, I.sq_ne q2 fz, I.sq_ne q2 fTO, I.sq_ne q2 f1, I.sq_ne q2 f2⟩
    refine ZG.pyNext_item DD hz hi ho d1 d2 p1 p2 (by simpa using hu) (by simpa using hv) fun g gz gO g1 g2 gT gs gk => ⟨_, rfl, ?_⟩
    refine wpAny_letOwnedTupleGo_zip (s := { s with heap := g }) gz fun h' hz' hs' => ?_
    have hfresh : H s.heap.objs.size = none := I.hok.fresh (Nat.le_refl _)
    have zT : s.heap.objs.size ≠ z := Nat.ne_of_gt (Heap.lt_size hz)
    have kp : ∀ b o, b ∉ [z, TI, TO, i1, i2] → s.heap.get? b = some o → h'.get? b = some o := fun b o hb e => by
      have n : b ≠ z ∧ b ≠ TI ∧ b ≠ TO ∧ b ≠ i1 ∧ b ≠ i2 := by simpa using hb
      exact hs'.extBut _ _ n.1 (gk b o n.1 n.2.2.1 n.2.2.2.1 n.2.2.2.2 e)
    have hT : h'.get? s.heap.objs.size = some { cls := .type "tuple", data := .seq #[u, v] } := hs'.extBut _ _ zT gT
    have notfp : ∀ b o, H b = some o → b ∉ [z, TI, TO, i1, i2] := fun b o e hb => by
      have := (hf b hb).1
      rw [e] at this; cases this
    have ne : ∀ b o, s.heap.get? b = some o → b ≠ s.heap.objs.size := fun b o e => Nat.ne_of_lt (Heap.lt_size e)
    have nt : ∀ b o, H b = some o → b ≠ s.heap.objs.size := fun b o e => ne_of_none e hfresh
    have I1 : Inv X pins σ (upd H s.heap.objs.size (.tup [x, y])) { s with heap := h' } := by
      refine I.step (g' := s.gens) (d' := s.drawn) (t' := s.toks) (ch := [z, TI, TO, i1, i2]) (fun b hb => ?_) (fun b o _ _ hc e _ => kp b o hc e) (fun b o _ _ hc e _ => ⟨o.slots, kp b o hc e⟩)
        (fun b o _ e n => by rw [upd_ne (ne b o e)]; exact n) (fun b o hc e => ⟨o, kp b o hc e⟩) (fun b zs e => by rw [upd_ne (nt b _ e)]; exact e) (fun b o u e => by rw [upd_ne (nt b _ e)]; exact e)
        (fun b ps e => ⟨#[], by rw [upd_ne (nt b _ e), e]; simp⟩) (fun m hm => ?_) (fun b o e => ?_) I.bare
      · obtain ⟨g0, g1, g2, g3, g4, g5⟩ := hf b hb
        exact ⟨g3, g1, g4, g5⟩
      · obtain ⟨o, es, ep, ho', r⟩ := hm
        exact ⟨o, es, ep, kp _ o (fun hb => (hf _ hb).2.1 rfl) ho', r⟩
      · by_cases hb : b = s.heap.objs.size
        · subst hb
          rw [upd_same] at e
          cases e
          exact ⟨by show 2 ≤ sizeLine; decide, [u, v], .cons ru (.cons rw' .nil), _, hT, rfl, _, rfl⟩
        · rw [upd_ne hb] at e
          refine (I.hok b o e).stay (fun c' w' hc' q => kp c' w' ?_ q) (fun c' q => by rw [upd_ne (nt c' _ q)]; exact q) fun c' zs q => by rw [upd_ne (nt c' _ q)]; exact q
          rcases hc' with rfl | hc'
          · exact notfp _ _ e
          · exact notfp _ _ hc'
    refine ⟨.ref s.heap.objs.size, _, I1, rfl, ⟨s.heap.objs.size, x, y, hfresh, rfl, rfl, fun zs hq => by rw [I.sq_inj hq q1]; exact hx, fun zs hq => by rw [I.sq_inj hq q2]; exact hy⟩, ?_, fun b hb => ?_⟩
    · exact ⟨hz', hs'.extBut _ _ D.a1 (gk _ _ D.a1 D.a5 D.a6 D.a7 hi), ⟨_, _, hs'.extBut _ _ D.a2 gO⟩, g1.ext hs'.extBut D.a3, g2.ext hs'.extBut D.a4⟩
    · have hb0 := (hf b hb).1
      have hb' : b = z ∨ b = TI ∨ b = TO ∨ b = i1 ∨ b = i2 := by simpa using hb
      have hlt : ∃ o, s.heap.get? b = some o := by
        rcases hb' with rfl | rfl | rfl | rfl | rfl
        · exact ⟨_, hz⟩
        · exact ⟨_, hi⟩
        · exact ⟨_, ho⟩
        · obtain ⟨o, e, _⟩ := d1.some; exact ⟨o, e⟩
        · obtain ⟨o, e, _⟩ := d2.some; exact ⟨o, e⟩
      obtain ⟨o, e⟩ := hlt
      rw [upd_ne (ne b o e)]
      exact hb0
  done := by
    intro X hP hw hK hc i pins s σ H E I hf st hg
    subst hP hw hK
    obtain ⟨xs, ys, q1, q2, hn⟩ := hg
    obtain ⟨its, rv, p1, z1⟩ := I.sq q1
    obtain ⟨jts, sv, p2, z2⟩ := I.sq q2
    obtain ⟨hz, hi, ⟨a, c, ho⟩, d1, d2⟩ := st
    have fz := hf z (by simp)
    have fTI := hf TI (by simp)
    have fTO := hf TO (by simp)
    have f1 := hf i1 (by simp)
    have f2 := hf i2 (by simp)
    have DD : ZG.Off z TI TO i1 i2 a1 a2 := ⟨D.a1, D.a2, D.a3, D.a4, D.a5, D.a6, D.a7, D.a8, D.a9, D.b1, I.sq_ne q1 fz, I.sq_ne q1 fTO, I.sq_ne q1 f1, I.sq_ne q1 f2, I.sq_ne q2 fz, I.sq_ne q2 fTO, I.sq_ne q2 f1, I.sq_ne q2 f2⟩
    have l1 := rv.length
    have l2 := sv.length
    refine ZG.pyNext_end (I.ok.hd hc) DD hz hi ho d1 d2 p1 p2 (hn.elim (fun z => .inl (by simp; omega)) fun z => .inr (by simp; omega)) fun g gk => ⟨rfl, ?_⟩
    have kp : ∀ b o, b ∉ [z, TI, TO, i1, i2] → s.heap.get? b = some o → g.get? b = some o := fun b o hb e => by
      have n : b ≠ z ∧ b ≠ TI ∧ b ≠ TO ∧ b ≠ i1 ∧ b ≠ i2 := by simpa using hb
      exact gk b o n.1 n.2.2.1 n.2.2.2.1 n.2.2.2.2 e
    have notfp : ∀ b o, H b = some o → b ∉ [z, TI, TO, i1, i2] := fun b o e hb => by
      have := (hf b hb).1
      rw [e] at this; cases this
    refine I.step (g' := s.gens) (d' := s.drawn) (t' := s.toks) (ch := [z, TI, TO, i1, i2]) (fun b hb => ?_) (fun b o _ _ hc e _ => kp b o hc e) (fun b o _ _ hc e _ => ⟨o.slots, kp b o hc e⟩)
      (fun b o _ e n => n) (fun b o hc e => ⟨o, kp b o hc e⟩) (fun b zs e => e) (fun b o u e => e) (fun b ps e => ⟨#[], by rw [e]; simp⟩) (fun m hm => ?_) (fun b o e => ?_) I.bare
    · obtain ⟨g0, g1, g2, g3, g4, g5⟩ := hf b hb
      exact ⟨g3, g1, g4, g5⟩
    · obtain ⟨o, es, ep, ho', r⟩ := hm
      exact ⟨o, es, ep, kp _ o (fun hb => (hf _ hb).2.1 rfl) ho', r⟩
    · refine (I.hok b o e).stay (fun c' w' hc' q => kp c' w' ?_ q) (fun c' q => q) fun c' zs q => q
      rcases hc' with rfl | hc'
      · exact notfp _ _ e
      · exact notfp _ _ hc'
  self := fun _ _ _ _ _ st h => wpAny_pyIter_zip st.1 h

def iZip (K : PySem.W.Frag) (ta : TA) : TI := fun σ H R => ta σ H fun vs H1 => ∃ b1 a1 b2 a2, vs = [.ref a1, .ref a2] ∧ (∃ xs, SqG b1 K H1 a1 xs) ∧ (∃ ys, SqG b2 K H1 a2 ys) ∧ R (Itz K b1 a1 b2 a2) H1
theorem pi_zip {X : Cx} {es : List Expr} {x1 : Nat} {tp : Pos} {a b : Expr} {ta : TA} {p pos : Pos} (hg : Gl X "zip") (hm : X.mg "zip" = none) (ha : PA X [a, b] ta) (hs : starEach [a, b] X.env = [(false, eval a X.env), (false, eval b X.env)] := by rfl) (hs2 : starEach [b] X.env = [(false, eval b X.env)] := by rfl) :
    PI X (.Tuple es x1 tp) (.Call (.Name "zip" p) [a, b] [] pos) (iZip X.K ta) := by
  intro pins s σ H R I h
  refine Call_ (ld_blt I hg hm boot_zip (PyProof.Rows.callWith_type1 (thn (ha pos pins s σ H _ I h) fun us s1 ⟨vs, H1, I1, r1, q1⟩ => ?_) (by rw [hs, hs2]) (by rw [hs2]; rfl)))
  obtain ⟨b1, a1, b2, a2, e, ⟨xs, q1⟩, ⟨ys, q2⟩, q⟩ := q1
  subst e
  cases r1 with
  | cons r rr =>
    cases rr with
    | cons r' rr =>
      cases rr
      cases r
      cases r'
      obtain ⟨its, rv, p1, z1⟩ := I1.sq q1
      obtain ⟨jts, sv, p2, z2⟩ := I1.sq q2
      refine ZG.call_zip p1 p2 fun g gz gi go g1 g2 gs gk => wpAny_pyIter_zip (s := { s1 with heap := g }) gz ?_
      have I2 : Inv X pins σ H1 { s1 with heap := g } := I1.kept (t' := s1.toks) gk
      refine ⟨_, _, _, _, H1, rfl, I2, turn_zip b1 a1 b2 a2 _ (s1.heap.objs.size + 2) (s1.heap.objs.size + 3) s1.heap.objs.size (s1.heap.objs.size + 1) ?_, ⟨gz, gi, ⟨_, _, go⟩, g1, g2⟩, fun b hb => ?_, q⟩
      · constructor <;> (show (_ : Nat) ≠ _) <;> omega
      · have hb' : s1.heap.objs.size ≤ b := by
          have z : b = s1.heap.objs.size + 4 ∨ b = s1.heap.objs.size + 2 ∨ b = s1.heap.objs.size + 3 ∨ b = s1.heap.objs.size ∨ b = s1.heap.objs.size + 1 := by simpa using hb
          rcases z with z | z | z | z | z <;> rw [z] <;> (show (_ : Nat) ≤ _) <;> omega
        exact I1.fpOk hb' (I1.hok.fresh hb')

/-! ### all, any -/
def bools (bs : List Bool) : List V := bs.map V.bl
theorem bools_get {bs : List Bool} {us : List Value} (r : Vals (bools bs) us) {i : Nat} {u : Value} (h : us[i]? = some u) : ∃ b, bs[i]? = some b ∧ u = .bool b := by
  have hl := r.length
  have hi : i < us.length := (List.getElem?_eq_some_iff.mp h).1
  have hb : i < bs.length := by rw [← hl] at hi; simpa [bools] using hi
  have e : (bools bs)[i]? = some (.bl bs[i]) := by unfold bools; rw [List.getElem?_map, List.getElem?_eq_getElem hb]; rfl
  obtain ⟨u', h', ru⟩ := r.get e
  rw [h] at h'
  cases h'
  exact ⟨bs[i], List.getElem?_eq_getElem hb, ru⟩
theorem range_all' (bs : List Bool) : ((List.range bs.length).all fun i => (bs[i]?).getD true) = bs.all id := by
  have e : bs = (List.range bs.length).map fun i => (bs[i]?).getD true := by
    apply List.ext_getElem
    · simp
    · intro i h1 h2; simp [h1]
  conv => rhs; rw [e, List.all_map]
  rfl
section
variable {X : Cx}
theorem call_all (hc : X.calm = true) : CallR X (.builtin "all") (fun xs H Q => ∃ a bs, xs = [.ref a] ∧ SqL X.K H a (bools bs) ∧ Q (.bl (bs.all id)) H) := by
  intro pins s σ H xs us Q I r h
  obtain ⟨a, bs, rfl, hq, q⟩ := h
  obtain ⟨u, rfl, ru⟩ := vals1 r
  cases ru
  obtain ⟨its, rv, p, z⟩ := I.list hq
  have hl := p.isList
  have hlt : a < s.heap.objs.size := by obtain ⟨_, e, _⟩ := hl; exact Heap.lt_size e
  have hlen : its.toArray.size = bs.length := by rw [List.size_toArray, ← rv.length]; simp [bools]
  refine call_all_walk (wpAny_pyIter_list hl ⟨s.heap.objs.size, [s.heap.objs.size, a], [s.heap.objs.size], its.toArray.size, _, _, fun i => (bs[i]?).getD true, rfl, Walks.list (A := X.A.in1) (I.ok.hd hc) _ a (Nat.ne_of_lt hlt) its.toArray, ⟨⟨_, Heap.get?_push_size _ rfl, rfl, rfl⟩, hl.push _⟩, fun i v s' Q' E' hP hQ => ?_, fun h' tk hk => ?_⟩)
  · obtain ⟨b, e, rfl⟩ := bools_get rv (i := i) (u := v) (by simpa using hP)
    simp only [e, Option.getD_some] at hQ
    exact wpAny_truthy_bool hQ
  · rw [hlen, range_all']
    exact ⟨.bl (bs.all id), H, I.kept (t' := tk) (LSm.kept_iter hk), rfl, q⟩
end

/-! ### isinstance of the built-in kinds -/
inductive Ty where
  | non | bl | int | str | lst | tup | dct
  deriving DecidableEq
def Ty.nm : Ty → String
  | .non => "NoneType"
  | .bl => "bool"
  | .int => "int"
  | .str => "str"
  | .lst => "list"
  | .tup => "tuple"
  | .dct => "dict"
def isA (t c : Ty) : Bool := decide (t = c) || (decide (t = .bl) && decide (c = .int))
/-- a value's kind -/
inductive TyG (K : PySem.W.Frag) (H : Hp) : V → Ty → Prop where
  | non : TyG K H .non .non
  | bl (b : Bool) : TyG K H (.bl b) .bl
  | int (i : Int) : TyG K H (.int i) .int
  | str (x : Str) : TyG K H (.str x) .str
  | lst {a : Addr} {xs : List V} (h : SqL K H a xs) : TyG K H (.ref a) .lst
  | tup {a : Addr} {xs : List V} (h : SqT K H a xs) : TyG K H (.ref a) .tup
  | dct {a : Addr} {kvs : List (Key × V)} (h : H a = some (.dK kvs)) : TyG K H (.ref a) .dct
theorem kit_ask (K : PySem.W.Frag) (t c : Ty) : PySem.W.kitOne K (.type t.nm) (.type c.nm) = some (isA t c) := by
  cases t <;> cases c <;> kernel_rfl
theorem kit_any (K : PySem.W.Frag) (t : Ty) : ∀ cs : List Ty, PySem.W.kitAny K (.type t.nm) (cs.map fun c => Value.type c.nm) = some (cs.any (isA t))
  | [] => rfl
  | c :: r => by
    rw [List.map_cons, List.any_cons]
    unfold PySem.W.kitAny
    rw [kit_ask]
    cases isA t c with
    | true => rfl
    | false => exact kit_any K t r
section
variable {X : Cx} {pins : List (Addr × Obj)} {σ : St} {H : Hp} {s : Shared} {A : Around} {E : Value → Shared → Prop} {Q : Value → Shared → Prop}
theorem Vals.tys : ∀ {cs : List Ty} {us : List Value}, Vals (cs.map fun c => V.ty c.nm) us → us = cs.map fun c => Value.type c.nm
  | [], _, .nil => rfl
  | c :: r, _, .cons h t => by
    have e : _ = Value.type c.nm := h
    rw [List.map_cons, ← Vals.tys t, e]
/-- of one kind or of several -/
def KindArg (K : PySem.W.Frag) (H : Hp) (y : V) (cs : List Ty) : Prop := (∃ c, y = .ty c.nm ∧ cs = [c]) ∨ ∃ p, y = .ref p ∧ H p = some (.tup (cs.map fun c => V.ty c.nm))
theorem isinst_g {x y : V} {u v : Value} {t : Ty} {cs : List Ty} (I : Inv X pins σ H s) (rx : RelV x u) (ry : RelV y v) (ty : TyG X.K H x t) (ka : KindArg X.K H y cs) (h : ∀ tk, Q (.bool (cs.any (isA t))) { s with toks := tk }) :
    wpAny (model X.prog X.w) A (call (.builtin "isinstance") [u, v]) Q E s := by
  have go : ∀ {P : Heap → Prop}, PySem.W.KitX X.K u (.type t.nm) P → P s.heap → u ≠ .builtin "__main__.__loader__#opaque" → wpAny (model X.prog X.w) A (call (.builtin "isinstance") [u, v]) Q E s := fun {P} Z p hx => by
    rcases ka with ⟨c, rfl, rfl⟩ | ⟨q, rfl, hq⟩
    · cases (show v = Value.type c.nm from ry)
      have e : ([c].any (isA t)) = isA t c := by simp
      exact PySem.W.kia_one Z I.kIn p (kit_ask X.K t c) hx (fun tk => by rw [← e]; exact h tk)
    · cases (show v = Value.ref q from ry)
      obtain ⟨_, its, rv, o, ho, hc, n, hd⟩ := (show ObjOk X.prog X.w H s.heap q (.tup _) from I.hok q _ hq)
      have e := rv.tys
      subst e
      obtain ⟨c, dd, dt, sl⟩ := o
      cases (show c = _ from hc)
      cases (show dt = _ from hd)
      exact PySem.W.kia_tup Z I.kIn p ho (kit_any X.K t cs) hx h
  cases ty with
  | non => cases (show u = Value.none from rx); exact go PySem.W.kitx_none True.intro (fun z => nomatch z)
  | bl y => cases (show u = Value.bool y from rx); exact go PySem.W.kitx_bool True.intro (fun z => nomatch z)
  | int i => obtain ⟨t, q⟩ := (show ∃ t, u = Value.int i t from rx); cases q; exact go PySem.W.kitx_int True.intro (fun z => nomatch z)
  | str y => obtain ⟨t, q⟩ := (show ∃ t, u = Value.str y t from rx); cases q; exact go PySem.W.kitx_str True.intro (fun z => nomatch z)
  | @lst a xs hq =>
    cases (show u = Value.ref a from rx)
    obtain ⟨_, _, p, _⟩ := I.list hq
    obtain ⟨o, h1, h2, _⟩ := p.isList
    exact go PySem.W.kitx_list ⟨o, h1, h2⟩ (fun z => nomatch z)
  | @tup a xs hq =>
    cases (show u = Value.ref a from rx)
    obtain ⟨_, _, p, _⟩ := I.tuple hq
    obtain ⟨o, h1, h2, _⟩ := p
    exact go PySem.W.kitx_tuple ⟨o, h1, h2⟩ (fun z => nomatch z)
  | @dct a kvs hq =>
    cases (show u = Value.ref a from rx)
    obtain ⟨_, _, vs, _, p⟩ := (show ObjOk X.prog X.w H s.heap a (.dK kvs) from I.hok a _ hq)
    obtain ⟨o, es, ep, h1, h2, _⟩ := p
    exact go PySem.W.kitx_dict ⟨o, h1, h2.1⟩ (fun z => nomatch z)
theorem call_isinst : CallR X (.builtin "isinstance") (fun xs H Q => ∃ x y t cs, xs = [x, y] ∧ TyG X.K H x t ∧ KindArg X.K H y cs ∧ Q (.bl (cs.any (isA t))) H) := by
  intro pins s σ H xs us Q I r h
  obtain ⟨x, y, t, cs, rfl, ty, ka, q⟩ := h
  cases r with
  | cons r rr =>
    cases rr with
    | cons r' rr =>
      cases rr
      exact isinst_g I r r' ty ka fun tk => ⟨.bl (cs.any (isA t)), H, I.tok tk, rfl, q⟩
end
end L2

/-! OWN RULES 3: deep data (ints, bools, texts, None, lists and tuples of data), what stands for it in the heap, == and != and in -/
namespace L2
open PySem PySem.Spec PyProof.Rows
inductive Dt where
  | int (i : Int) | bl (b : Bool) | str (x : Str) | non | lst (ds : List Dt) | tup (ds : List Dt)
mutual
def Has (K : PySem.W.Frag) (H : Hp) : Dt → V → Prop
  | .int i, v => v = .int i
  | .bl b, v => v = .bl b
  | .str x, v => v = .str x
  | .non, v => v = .non
  | .lst ds, v => ∃ a xs, v = .ref a ∧ SqL K H a xs ∧ HasL K H ds xs
  | .tup ds, v => ∃ a xs, v = .ref a ∧ SqT K H a xs ∧ HasL K H ds xs
def HasL (K : PySem.W.Frag) (H : Hp) : List Dt → List V → Prop
  | [], xs => xs = []
  | d :: r, xs => ∃ x t, xs = x :: t ∧ Has K H d x ∧ HasL K H r t
end
mutual
def dpt : Dt → Nat
  | .lst ds => dptL ds + 1
  | .tup ds => dptL ds + 1
  | _ => 0
def dptL : List Dt → Nat
  | [] => 0
  | d :: r => max (dpt d) (dptL r)
end
mutual
def eqD : Dt → Dt → Bool
  | .int a, .int b => a == b
  | .int a, .bl b => a == (if b then 1 else 0)
  | .bl a, .int b => (if a then 1 else 0) == b
  | .bl a, .bl b => a == b
  | .str a, .str b => a == b
  | .non, .non => true
  | .lst xs, .lst ys => eqL xs ys
  | .tup xs, .tup ys => eqL xs ys
  | _, _ => false
def eqL : List Dt → List Dt → Bool
  | [], [] => true
  | x :: xs, y :: ys => eqD x y && eqL xs ys
  | _, _ => false
end
mutual
theorem eqD_same : ∀ d : Dt, eqD d d = true
  | .int a => by simp [eqD]
  | .bl a => by simp [eqD]
  | .str a => by simp [eqD]
  | .non => by simp [eqD]
  | .lst xs => by rw [eqD]; exact eqL_same xs
  | .tup xs => by rw [eqD]; exact eqL_same xs
theorem eqL_same : ∀ ds : List Dt, eqL ds ds = true
  | [] => by simp [eqL]
  | d :: r => by rw [eqL, eqD_same d, eqL_same r]; rfl
end
theorem HasL.len {K : PySem.W.Frag} {H : Hp} : ∀ {ds : List Dt} {xs : List V}, HasL K H ds xs → ds.length = xs.length
  | [], xs, h => by rw [HasL] at h; rw [h]; rfl
  | d :: r, xs, h => by
    rw [HasL] at h
    obtain ⟨x, t, rfl, _, ht⟩ := h
    rw [List.length_cons, List.length_cons, HasL.len ht]
theorem HasL.get {K : PySem.W.Frag} {H : Hp} : ∀ {ds : List Dt} {xs : List V} {i : Nat} {d : Dt} {x : V}, HasL K H ds xs → ds[i]? = some d → xs[i]? = some x → Has K H d x
  | [], xs, i, d, x, h, e, _ => by simp at e
  | c :: r, xs, 0, d, x, h, e, f => by
    rw [HasL] at h
    obtain ⟨y, t, rfl, hy, ht⟩ := h
    simp at e f
    subst e f
    exact hy
  | c :: r, xs, i + 1, d, x, h, e, f => by
    rw [HasL] at h
    obtain ⟨y, t, rfl, hy, ht⟩ := h
    exact HasL.get ht (i := i) (by simpa using e) (by simpa using f)
theorem SqL.same {K : PySem.W.Frag} {H H' : Hp} {a : Addr} {xs : List V} (e : Same H H') (h : SqL K H a xs) : SqL K H' a xs := e.seq h
theorem SqT.same {K : PySem.W.Frag} {H H' : Hp} {a : Addr} {xs : List V} (e : Same H H') (h : SqT K H a xs) : SqT K H' a xs := by
  rcases h with (h | ⟨o, h⟩) | h
  · exact .inl (.inl (e _ _ h))
  · exact .inl (.inr ⟨o, e _ _ h⟩)
  · exact .inr h
theorem SqG.same {b : Bool} {K : PySem.W.Frag} {H H' : Hp} {a : Addr} {xs : List V} (e : Same H H') (h : SqG b K H a xs) : SqG b K H' a xs := by
  cases b with
  | true => exact SqT.same e h
  | false => exact SqL.same e h
mutual
theorem Has.same {K : PySem.W.Frag} {H H' : Hp} (e : Same H H') : ∀ {d : Dt} {v : V}, Has K H d v → Has K H' d v
  | .int i, v, h => by rw [Has] at h ⊢; exact h
  | .bl i, v, h => by rw [Has] at h ⊢; exact h
  | .str i, v, h => by rw [Has] at h ⊢; exact h
  | .non, v, h => by rw [Has] at h ⊢; exact h
  | .lst ds, v, h => by
    rw [Has] at h ⊢
    obtain ⟨a, xs, hv, hs, hl⟩ := h
    exact ⟨a, xs, hv, SqL.same e hs, HasL.same e hl⟩
  | .tup ds, v, h => by
    rw [Has] at h ⊢
    obtain ⟨a, xs, hv, hs, hl⟩ := h
    exact ⟨a, xs, hv, SqT.same e hs, HasL.same e hl⟩
theorem HasL.same {K : PySem.W.Frag} {H H' : Hp} (e : Same H H') : ∀ {ds : List Dt} {xs : List V}, HasL K H ds xs → HasL K H' ds xs
  | [], xs, h => by rw [HasL] at h ⊢; exact h
  | d :: r, xs, h => by
    rw [HasL] at h ⊢
    obtain ⟨x, t, hx, h1, h2⟩ := h
    exact ⟨x, t, hx, Has.same e h1, HasL.same e h2⟩
end
theorem HasL.append {K : PySem.W.Frag} {H : Hp} : ∀ {ds es : List Dt} {xs ys : List V}, HasL K H ds xs → HasL K H es ys → HasL K H (ds ++ es) (xs ++ ys)
  | [], es, xs, ys, h, g => by rw [HasL] at h; subst h; exact g
  | d :: r, es, xs, ys, h, g => by
    rw [HasL] at h
    obtain ⟨x, t, rfl, h1, h2⟩ := h
    show HasL K H (d :: (r ++ es)) (x :: (t ++ ys))
    rw [HasL]
    exact ⟨x, t ++ ys, rfl, h1, HasL.append h2 g⟩
theorem hasL_nil {K : PySem.W.Frag} {H : Hp} : HasL K H [] [] := by rw [HasL]
theorem hasL_cons {K : PySem.W.Frag} {H : Hp} {d : Dt} {r : List Dt} {x : V} {t : List V} (h : Has K H d x) (g : HasL K H r t) : HasL K H (d :: r) (x :: t) := by rw [HasL]; exact ⟨x, t, rfl, h, g⟩
/-- ints -/
def di (ns : List Int) : List Dt := ns.map Dt.int
theorem hasL_ints {K : PySem.W.Frag} {H : Hp} : ∀ ns : List Int, HasL K H (di ns) (ns.map V.int)
  | [] => hasL_nil
  | n :: r => hasL_cons (by rw [Has]) (hasL_ints r)
theorem ints_hasL {K : PySem.W.Frag} {H : Hp} : ∀ {ns : List Int} {xs : List V}, HasL K H (di ns) xs → xs = ns.map V.int
  | [], xs, h => by
    have h : HasL K H [] xs := h
    rw [HasL] at h; exact h
  | n :: r, xs, h => by
    have h : HasL K H (Dt.int n :: di r) xs := h
    rw [HasL] at h
    obtain ⟨x, t, rfl, h1, h2⟩ := h
    rw [Has] at h1
    rw [h1, ints_hasL h2]
    rfl
theorem has_tupI {K : PySem.W.Frag} {H : Hp} {p : Addr} {ns : List Int} (h : SqT K H p (ns.map V.int)) : Has K H (.tup (di ns)) (.ref p) := by rw [Has]; exact ⟨p, _, rfl, h, hasL_ints ns⟩
theorem has_lstI {K : PySem.W.Frag} {H : Hp} {p : Addr} {ns : List Int} (h : SqL K H p (ns.map V.int)) : Has K H (.lst (di ns)) (.ref p) := by rw [Has]; exact ⟨p, _, rfl, h, hasL_ints ns⟩
theorem eqL_ints : ∀ ns ms : List Int, eqL (di ns) (di ms) = decide (ns = ms)
  | [], [] => by simp [di, eqL]
  | [], m :: r => by simp [di, eqL]
  | n :: r, [] => by simp [di, eqL]
  | n :: r, m :: t => by
    show eqL (Dt.int n :: di r) (Dt.int m :: di t) = _
    rw [eqL, eqL_ints r t, eqD]
    by_cases h : n = m
    · subst h; simp
    · simp [h]

theorem dptL_ints : ∀ ns : List Int, dptL (di ns) = 0
  | [] => by simp [di, dptL]
  | n :: r => by
    have ih := dptL_ints r
    show dptL (Dt.int n :: di r) = 0
    simp [dptL, dpt, ih]
/-! ### == in depth -/
theorem dptL_get : ∀ {ds : List Dt} {i : Nat} {d : Dt}, ds[i]? = some d → dpt d ≤ dptL ds
  | [], i, d, e => by simp at e
  | c :: r, 0, d, e => by simp at e; subst e; rw [dptL]; exact Nat.le_max_left _ _
  | c :: r, i + 1, d, e => by
    have q : dpt d ≤ dptL r := dptL_get (i := i) (by simpa using e)
    rw [dptL]
    exact Nat.le_trans q (Nat.le_max_right _ _)
theorem eqL_range : ∀ (ds es : List Dt), ds.length = es.length → ((List.range ds.length).all fun j => eqD (ds.getD j .non) (es.getD j .non)) = eqL ds es
  | [], [], _ => by simp [eqL]
  | [], e :: r, h => by simp at h
  | d :: r, [], h => by simp at h
  | d :: r, e :: t, h => by
    have h' : r.length = t.length := by simpa using h
    rw [eqL, ← eqL_range r t h', List.length_cons, List.range_succ_eq_map, List.all_cons, List.all_map]
    rfl
theorem eqL_len : ∀ {ds es : List Dt}, eqL ds es = true → ds.length = es.length
  | [], [], _ => rfl
  | [], e :: r, h => by simp [eqL] at h
  | d :: r, [], h => by simp [eqL] at h
  | d :: r, e :: t, h => by
    rw [eqL, Bool.and_eq_true] at h
    rw [List.length_cons, List.length_cons, eqL_len h.2]
theorem all_min_eqL : ∀ (ds es : List Dt), (((List.range (min ds.length es.length)).all fun j => eqD (ds.getD j .non) (es.getD j .non)) && ds.length == es.length) = eqL ds es := by
  intro ds es
  by_cases h : ds.length = es.length
  · rw [← eqL_range ds es h, h, Nat.min_self]
    simp
  · have : eqL ds es = false := Bool.eq_false_iff.mpr fun z => h (eqL_len z)
    rw [this]
    have : (ds.length == es.length) = false := by simpa using h
    rw [this, Bool.and_false]
section
variable {X : Cx} {pins : List (Addr × Obj)} {σ : St} {H : Hp} {s : Shared}
/-- two sequences' items, by place -/
theorem items_eq (n : Nat) {A : Around} (hA : A.units + 1 + n < cLine + 1) (I : Inv X pins σ H s) {ds es : List Dt} {xs ys : List V} {its jts : List Value} (h1 : HasL X.K H ds xs) (h2 : HasL X.K H es ys) (r1 : Vals xs its) (r2 : Vals ys jts)
    (rec : ∀ d e x y u v, d ∈ ds → e ∈ es → Has X.K H d x → Has X.K H e y → RelV x u → RelV y v → SeqAt.EqAt A.in1 s u v (eqD d e)) :
    ∀ j (g1 : j < its.toArray.size) (g2 : j < jts.toArray.size), SeqAt.EqAt A.in1 s its.toArray[j] jts.toArray[j] (eqD (ds.getD j .non) (es.getD j .non)) := by
  intro j g1 g2
  have l1 := r1.length
  have l2 := r2.length
  have m1 := h1.len
  have m2 := h2.len
  have g1' : j < its.length := by simpa using g1
  have g2' : j < jts.length := by simpa using g2
  have a1 : j < xs.length := by omega
  have a2 : j < ys.length := by omega
  have b1 : j < ds.length := by omega
  have b2 : j < es.length := by omega
  obtain ⟨u, hu, ru⟩ := r1.get (List.getElem?_eq_getElem a1)
  obtain ⟨v, hv, rv⟩ := r2.get (List.getElem?_eq_getElem a2)
  rw [List.getElem?_eq_getElem g1'] at hu
  rw [List.getElem?_eq_getElem g2'] at hv
  cases hu
  cases hv
  have e1 : ds.getD j .non = ds[j] := by simp [List.getD_eq_getElem?_getD, b1]
  have e2 : es.getD j .non = es[j] := by simp [List.getD_eq_getElem?_getD, b2]
  rw [e1, e2]
  have := rec ds[j] es[j] xs[j] ys[j] its[j] jts[j] (List.getElem_mem b1) (List.getElem_mem b2) (h1.get (List.getElem?_eq_getElem b1) (List.getElem?_eq_getElem a1)) (h2.get (List.getElem?_eq_getElem b2) (List.getElem?_eq_getElem a2)) ru rv
  simpa using this
theorem dpt_mem {ds : List Dt} {d : Dt} (h : d ∈ ds) : dpt d ≤ dptL ds := by
  obtain ⟨i, hi⟩ := List.getElem?_of_mem h
  exact dptL_get hi
mutual
theorem Has.inj (I : Inv X pins σ H s) : ∀ {d e : Dt} {x : V}, Has X.K H d x → Has X.K H e x → d = e
  | .int a, .int b, x, h1, h2 => by
    rw [Has] at h1
    rw [Has] at h2
    rw [h1] at h2
    cases h2
    rfl
  | .int a, .bl b, x, h1, h2 => by
    rw [Has] at h1
    rw [Has] at h2
    rw [h1] at h2
    cases h2
  | .int a, .str b, x, h1, h2 => by
    rw [Has] at h1
    rw [Has] at h2
    rw [h1] at h2
    cases h2
  | .int a, .non, x, h1, h2 => by
    rw [Has] at h1
    rw [Has] at h2
    rw [h1] at h2
    cases h2
  | .int a, .lst b, x, h1, h2 => by
    rw [Has] at h1
    rw [Has] at h2
    obtain ⟨p, xs, e, s1, l1⟩ := h2
    rw [h1] at e
    cases e
  | .int a, .tup b, x, h1, h2 => by
    rw [Has] at h1
    rw [Has] at h2
    obtain ⟨p, xs, e, s1, l1⟩ := h2
    rw [h1] at e
    cases e
  | .bl a, .int b, x, h1, h2 => by
    rw [Has] at h1
    rw [Has] at h2
    rw [h1] at h2
    cases h2
  | .bl a, .bl b, x, h1, h2 => by
    rw [Has] at h1
    rw [Has] at h2
    rw [h1] at h2
    cases h2
    rfl
  | .bl a, .str b, x, h1, h2 => by
    rw [Has] at h1
    rw [Has] at h2
    rw [h1] at h2
    cases h2
  | .bl a, .non, x, h1, h2 => by
    rw [Has] at h1
    rw [Has] at h2
    rw [h1] at h2
    cases h2
  | .bl a, .lst b, x, h1, h2 => by
    rw [Has] at h1
    rw [Has] at h2
    obtain ⟨p, xs, e, s1, l1⟩ := h2
    rw [h1] at e
    cases e
  | .bl a, .tup b, x, h1, h2 => by
    rw [Has] at h1
    rw [Has] at h2
    obtain ⟨p, xs, e, s1, l1⟩ := h2
    rw [h1] at e
    cases e
  | .str a, .int b, x, h1, h2 => by
    rw [Has] at h1
    rw [Has] at h2
    rw [h1] at h2
    cases h2
  | .str a, .bl b, x, h1, h2 => by
    rw [Has] at h1
    rw [Has] at h2
    rw [h1] at h2
    cases h2
  | .str a, .str b, x, h1, h2 => by
    rw [Has] at h1
    rw [Has] at h2
    rw [h1] at h2
    cases h2
    rfl
  | .str a, .non, x, h1, h2 => by
    rw [Has] at h1
    rw [Has] at h2
    rw [h1] at h2
    cases h2
  | .str a, .lst b, x, h1, h2 => by
    rw [Has] at h1
    rw [Has] at h2
    obtain ⟨p, xs, e, s1, l1⟩ := h2
    rw [h1] at e
    cases e
  | .str a, .tup b, x, h1, h2 => by
    rw [Has] at h1
    rw [Has] at h2
    obtain ⟨p, xs, e, s1, l1⟩ := h2
    rw [h1] at e
    cases e
  | .non, .int b, x, h1, h2 => by
    rw [Has] at h1
    rw [Has] at h2
    rw [h1] at h2
    cases h2
  | .non, .bl b, x, h1, h2 => by
    rw [Has] at h1
    rw [Has] at h2
    rw [h1] at h2
    cases h2
  | .non, .str b, x, h1, h2 => by
    rw [Has] at h1
    rw [Has] at h2
    rw [h1] at h2
    cases h2
  | .non, .non, x, h1, h2 => rfl
  | .non, .lst b, x, h1, h2 => by
    rw [Has] at h1
    rw [Has] at h2
    obtain ⟨p, xs, e, s1, l1⟩ := h2
    rw [h1] at e
    cases e
  | .non, .tup b, x, h1, h2 => by
    rw [Has] at h1
    rw [Has] at h2
    obtain ⟨p, xs, e, s1, l1⟩ := h2
    rw [h1] at e
    cases e
  | .lst a, .int b, x, h1, h2 => by
    rw [Has] at h1
    rw [Has] at h2
    obtain ⟨p, xs, rfl, s1, l1⟩ := h1
    cases h2
  | .lst a, .bl b, x, h1, h2 => by
    rw [Has] at h1
    rw [Has] at h2
    obtain ⟨p, xs, rfl, s1, l1⟩ := h1
    cases h2
  | .lst a, .str b, x, h1, h2 => by
    rw [Has] at h1
    rw [Has] at h2
    obtain ⟨p, xs, rfl, s1, l1⟩ := h1
    cases h2
  | .lst a, .non, x, h1, h2 => by
    rw [Has] at h1
    rw [Has] at h2
    obtain ⟨p, xs, rfl, s1, l1⟩ := h1
    cases h2
  | .lst a, .lst b, x, h1, h2 => by
    rw [Has] at h1
    rw [Has] at h2
    obtain ⟨p, xs, rfl, s1, l1⟩ := h1
    obtain ⟨q, ys, e, s2, l2⟩ := h2
    cases e
    have e := I.list_inj s1 s2
    subst e
    rw [HasL.inj I l1 l2]
  | .lst a, .tup b, x, h1, h2 => by
    rw [Has] at h1
    rw [Has] at h2
    obtain ⟨p, xs, rfl, s1, l1⟩ := h1
    obtain ⟨q, ys, e, s2, l2⟩ := h2
    cases e
    obtain ⟨_, _, pl, _⟩ := I.list s1
    obtain ⟨_, _, pt, _⟩ := I.tuple s2
    obtain ⟨o1, g1, c1, _⟩ := pl.isList
    obtain ⟨o2, g2, c2, _⟩ := pt
    rw [g1] at g2
    cases g2
    rw [c1] at c2
    exact absurd c2 (by decide)
  | .tup a, .int b, x, h1, h2 => by
    rw [Has] at h1
    rw [Has] at h2
    obtain ⟨p, xs, rfl, s1, l1⟩ := h1
    cases h2
  | .tup a, .bl b, x, h1, h2 => by
    rw [Has] at h1
    rw [Has] at h2
    obtain ⟨p, xs, rfl, s1, l1⟩ := h1
    cases h2
  | .tup a, .str b, x, h1, h2 => by
    rw [Has] at h1
    rw [Has] at h2
    obtain ⟨p, xs, rfl, s1, l1⟩ := h1
    cases h2
  | .tup a, .non, x, h1, h2 => by
    rw [Has] at h1
    rw [Has] at h2
    obtain ⟨p, xs, rfl, s1, l1⟩ := h1
    cases h2
  | .tup a, .lst b, x, h1, h2 => by
    rw [Has] at h1
    rw [Has] at h2
    obtain ⟨p, xs, rfl, s1, l1⟩ := h1
    obtain ⟨q, ys, e, s2, l2⟩ := h2
    cases e
    obtain ⟨_, _, pl, _⟩ := I.list s2
    obtain ⟨_, _, pt, _⟩ := I.tuple s1
    obtain ⟨o1, g1, c1, _⟩ := pl.isList
    obtain ⟨o2, g2, c2, _⟩ := pt
    rw [g1] at g2
    cases g2
    rw [c1] at c2
    exact absurd c2 (by decide)
  | .tup a, .tup b, x, h1, h2 => by
    rw [Has] at h1
    rw [Has] at h2
    obtain ⟨p, xs, rfl, s1, l1⟩ := h1
    obtain ⟨q, ys, e, s2, l2⟩ := h2
    cases e
    have e := I.tuple_inj s1 s2
    subst e
    rw [HasL.inj I l1 l2]
theorem HasL.inj (I : Inv X pins σ H s) : ∀ {ds es : List Dt} {xs : List V}, HasL X.K H ds xs → HasL X.K H es xs → ds = es
  | [], [], xs, h1, h2 => rfl
  | [], e :: r, xs, h1, h2 => by
    rw [HasL] at h1
    rw [HasL] at h2
    obtain ⟨y, t, e, _, _⟩ := h2
    rw [h1] at e
    cases e
  | d :: r, [], xs, h1, h2 => by
    rw [HasL] at h1
    rw [HasL] at h2
    obtain ⟨y, t, e, _, _⟩ := h1
    rw [h2] at e
    cases e
  | d :: r, e :: q, xs, h1, h2 => by
    rw [HasL] at h1
    rw [HasL] at h2
    obtain ⟨x, t, rfl, g1, g2⟩ := h1
    obtain ⟨y, w, z, k1, k2⟩ := h2
    cases z
    rw [Has.inj I g1 k1, HasL.inj I g2 k2]
end
theorem eq_of_rc {A : Around} {a b : Addr} {k : Bool} (h : SeqAt.RcAt A s (.ref a) (.ref b) k) (hk : a = b → k = true) : SeqAt.EqAt A s (.ref a) (.ref b) k := by
  by_cases e : a = b
  · rw [hk e, e]
    exact SeqAt.EqAt.same _
  · exact SeqAt.EqAt.of_refs e h
theorem eq_deep (I : Inv X pins σ H s) : ∀ (n : Nat) (A : Around) (d e : Dt) (x y : V) (u v : Value), dpt d ≤ n → A.units + n < cLine → Has X.K H d x → Has X.K H e y → RelV x u → RelV y v →
    SeqAt.RcAt A s u v (eqD d e) ∧ SeqAt.RcNeAt A s u v (!eqD d e) ∧ SeqAt.EqAt A s u v (eqD d e) := by
  intro n
  induction n with
  | zero =>
    intro A d e x y u v hd hA h1 h2 r1 r2
    have hu : A.units < cLine := by omega
    cases d with
    | int a =>
      rw [Has] at h1
      subst h1
      obtain ⟨t, rfl⟩ := r1
      cases e with
      | int b =>
        rw [Has] at h2
        subst h2
        obtain ⟨t', rfl⟩ := r2
        have ef : eqD (.int a) (.int b) = (a == b) := by simp [eqD]
        rw [ef]
        exact ⟨SeqAt.RcAt.int_int a t b t', SeqAt.RcNeAt.int_int a t b t', SeqAt.EqAt.int_int a t b t'⟩
      | bl b =>
        rw [Has] at h2
        subst h2
        cases r2
        have ef : eqD (.int a) (.bl b) = (a == (if b then 1 else 0)) := by simp [eqD]
        rw [ef]
        exact ⟨SeqAt.RcAt.int_bool a t b, SeqAt.RcNeAt.int_bool a t b, SeqAt.EqAt.int_bool a t b⟩
      | str b =>
        rw [Has] at h2
        subst h2
        obtain ⟨t', rfl⟩ := r2
        have ef : eqD (.int a) (.str b) = false := by simp [eqD]
        rw [ef]
        exact ⟨SeqAt.RcAt.int_str a t b t', SeqAt.RcNeAt.int_str a t b t', SeqAt.EqAt.int_str a t b t'⟩
      | non =>
        rw [Has] at h2
        subst h2
        cases r2
        have ef : eqD (.int a) (.non) = false := by simp [eqD]
        rw [ef]
        exact ⟨SeqAt.RcAt.int_none a t, SeqAt.RcNeAt.int_none a t, SeqAt.EqAt.int_none a t⟩
      | lst b =>
        have h2k := h2
        rw [Has] at h2
        obtain ⟨q, ys, rfl, s2, l2⟩ := h2
        cases (show v = Value.ref q from r2)
        obtain ⟨jts, rv2, pl2, z2⟩ := I.list s2
        have hb := pl2.isList
        have ef : eqD (.int a) (.lst b) = false := by simp [eqD]
        rw [ef]
        exact ⟨SeqAt.RcAt.int_list a t hb hu, SeqAt.RcNeAt.int_list a t hb hu, SeqAt.EqAt.int_list a t hb hu⟩
      | tup b =>
        have h2k := h2
        rw [Has] at h2
        obtain ⟨q, ys, rfl, s2, l2⟩ := h2
        cases (show v = Value.ref q from r2)
        obtain ⟨jts, rv2, pl2, z2⟩ := I.tuple s2
        have hb : s.heap.IsTuple q jts.toArray := pl2
        have ef : eqD (.int a) (.tup b) = false := by simp [eqD]
        rw [ef]
        exact ⟨SeqAt.RcAt.int_tuple a t hb hu, SeqAt.RcNeAt.int_tuple a t hb hu, SeqAt.EqAt.int_tuple a t hb hu⟩
    | bl a =>
      rw [Has] at h1
      subst h1
      cases r1
      cases e with
      | int b =>
        rw [Has] at h2
        subst h2
        obtain ⟨t', rfl⟩ := r2
        have ef : eqD (.bl a) (.int b) = ((if a then 1 else 0) == b) := by simp [eqD]
        rw [ef]
        exact ⟨SeqAt.RcAt.bool_int a b t', SeqAt.RcNeAt.bool_int a b t', SeqAt.EqAt.bool_int a b t'⟩
      | bl b =>
        rw [Has] at h2
        subst h2
        cases r2
        have ef : eqD (.bl a) (.bl b) = (a == b) := by simp [eqD]
        rw [ef]
        exact ⟨SeqAt.RcAt.bool_bool a b, SeqAt.RcNeAt.bool_bool a b, SeqAt.EqAt.bool_bool a b⟩
      | str b =>
        rw [Has] at h2
        subst h2
        obtain ⟨t', rfl⟩ := r2
        have ef : eqD (.bl a) (.str b) = false := by simp [eqD]
        rw [ef]
        exact ⟨SeqAt.RcAt.bool_str a b t', SeqAt.RcNeAt.bool_str a b t', SeqAt.EqAt.bool_str a b t'⟩
      | non =>
        rw [Has] at h2
        subst h2
        cases r2
        have ef : eqD (.bl a) (.non) = false := by simp [eqD]
        rw [ef]
        exact ⟨SeqAt.RcAt.bool_none a, SeqAt.RcNeAt.bool_none a, SeqAt.EqAt.bool_none a⟩
      | lst b =>
        have h2k := h2
        rw [Has] at h2
        obtain ⟨q, ys, rfl, s2, l2⟩ := h2
        cases (show v = Value.ref q from r2)
        obtain ⟨jts, rv2, pl2, z2⟩ := I.list s2
        have hb := pl2.isList
        have ef : eqD (.bl a) (.lst b) = false := by simp [eqD]
        rw [ef]
        exact ⟨SeqAt.RcAt.bool_list a hb hu, SeqAt.RcNeAt.bool_list a hb hu, SeqAt.EqAt.bool_list a hb hu⟩
      | tup b =>
        have h2k := h2
        rw [Has] at h2
        obtain ⟨q, ys, rfl, s2, l2⟩ := h2
        cases (show v = Value.ref q from r2)
        obtain ⟨jts, rv2, pl2, z2⟩ := I.tuple s2
        have hb : s.heap.IsTuple q jts.toArray := pl2
        have ef : eqD (.bl a) (.tup b) = false := by simp [eqD]
        rw [ef]
        exact ⟨SeqAt.RcAt.bool_tuple a hb hu, SeqAt.RcNeAt.bool_tuple a hb hu, SeqAt.EqAt.bool_tuple a hb hu⟩
    | str a =>
      rw [Has] at h1
      subst h1
      obtain ⟨t, rfl⟩ := r1
      cases e with
      | int b =>
        rw [Has] at h2
        subst h2
        obtain ⟨t', rfl⟩ := r2
        have ef : eqD (.str a) (.int b) = false := by simp [eqD]
        rw [ef]
        exact ⟨SeqAt.RcAt.str_int a t b t', SeqAt.RcNeAt.str_int a t b t', SeqAt.EqAt.str_int a t b t'⟩
      | bl b =>
        rw [Has] at h2
        subst h2
        cases r2
        have ef : eqD (.str a) (.bl b) = false := by simp [eqD]
        rw [ef]
        exact ⟨SeqAt.RcAt.str_bool a t b, SeqAt.RcNeAt.str_bool a t b, SeqAt.EqAt.str_bool a t b⟩
      | str b =>
        rw [Has] at h2
        subst h2
        obtain ⟨t', rfl⟩ := r2
        have ef : eqD (.str a) (.str b) = (a == b) := by simp [eqD]
        rw [ef]
        exact ⟨SeqAt.RcAt.str_str a t b t', SeqAt.RcNeAt.str_str a t b t', SeqAt.EqAt.str_str a t b t'⟩
      | non =>
        rw [Has] at h2
        subst h2
        cases r2
        have ef : eqD (.str a) (.non) = false := by simp [eqD]
        rw [ef]
        exact ⟨SeqAt.RcAt.str_none a t, SeqAt.RcNeAt.str_none a t, SeqAt.EqAt.str_none a t⟩
      | lst b =>
        have h2k := h2
        rw [Has] at h2
        obtain ⟨q, ys, rfl, s2, l2⟩ := h2
        cases (show v = Value.ref q from r2)
        obtain ⟨jts, rv2, pl2, z2⟩ := I.list s2
        have hb := pl2.isList
        have ef : eqD (.str a) (.lst b) = false := by simp [eqD]
        rw [ef]
        exact ⟨SeqAt.RcAt.str_list a t hb hu, SeqAt.RcNeAt.str_list a t hb hu, SeqAt.EqAt.str_list a t hb hu⟩
      | tup b =>
        have h2k := h2
        rw [Has] at h2
        obtain ⟨q, ys, rfl, s2, l2⟩ := h2
        cases (show v = Value.ref q from r2)
        obtain ⟨jts, rv2, pl2, z2⟩ := I.tuple s2
        have hb : s.heap.IsTuple q jts.toArray := pl2
        have ef : eqD (.str a) (.tup b) = false := by simp [eqD]
        rw [ef]
        exact ⟨SeqAt.RcAt.str_tuple a t hb hu, SeqAt.RcNeAt.str_tuple a t hb hu, SeqAt.EqAt.str_tuple a t hb hu⟩
    | non =>
      rw [Has] at h1
      subst h1
      cases r1
      cases e with
      | int b =>
        rw [Has] at h2
        subst h2
        obtain ⟨t', rfl⟩ := r2
        have ef : eqD (.non) (.int b) = false := by simp [eqD]
        rw [ef]
        exact ⟨SeqAt.RcAt.none_int b t', SeqAt.RcNeAt.none_int b t', SeqAt.EqAt.none_int b t'⟩
      | bl b =>
        rw [Has] at h2
        subst h2
        cases r2
        have ef : eqD (.non) (.bl b) = false := by simp [eqD]
        rw [ef]
        exact ⟨SeqAt.RcAt.none_bool b, SeqAt.RcNeAt.none_bool b, SeqAt.EqAt.none_bool b⟩
      | str b =>
        rw [Has] at h2
        subst h2
        obtain ⟨t', rfl⟩ := r2
        have ef : eqD (.non) (.str b) = false := by simp [eqD]
        rw [ef]
        exact ⟨SeqAt.RcAt.none_str b t', SeqAt.RcNeAt.none_str b t', SeqAt.EqAt.none_str b t'⟩
      | non =>
        rw [Has] at h2
        subst h2
        cases r2
        have ef : eqD (.non) (.non) = true := by simp [eqD]
        rw [ef]
        exact ⟨SeqAt.RcAt.none_none , SeqAt.RcNeAt.none_none , SeqAt.EqAt.same _⟩
      | lst b =>
        have h2k := h2
        rw [Has] at h2
        obtain ⟨q, ys, rfl, s2, l2⟩ := h2
        cases (show v = Value.ref q from r2)
        obtain ⟨jts, rv2, pl2, z2⟩ := I.list s2
        have hb := pl2.isList
        have ef : eqD (.non) (.lst b) = false := by simp [eqD]
        rw [ef]
        exact ⟨SeqAt.RcAt.none_list hb hu, SeqAt.RcNeAt.none_list hb hu, SeqAt.EqAt.none_list hb hu⟩
      | tup b =>
        have h2k := h2
        rw [Has] at h2
        obtain ⟨q, ys, rfl, s2, l2⟩ := h2
        cases (show v = Value.ref q from r2)
        obtain ⟨jts, rv2, pl2, z2⟩ := I.tuple s2
        have hb : s.heap.IsTuple q jts.toArray := pl2
        have ef : eqD (.non) (.tup b) = false := by simp [eqD]
        rw [ef]
        exact ⟨SeqAt.RcAt.none_tuple hb hu, SeqAt.RcNeAt.none_tuple hb hu, SeqAt.EqAt.none_tuple hb hu⟩
    | lst a =>
      rw [dpt] at hd
      omega
    | tup a =>
      rw [dpt] at hd
      omega
  | succ n ih =>
    intro A d e x y u v hd hA h1 h2 r1 r2
    have hu : A.units < cLine := by omega
    cases d with
    | int a =>
      rw [Has] at h1
      subst h1
      obtain ⟨t, rfl⟩ := r1
      cases e with
      | int b =>
        rw [Has] at h2
        subst h2
        obtain ⟨t', rfl⟩ := r2
        have ef : eqD (.int a) (.int b) = (a == b) := by simp [eqD]
        rw [ef]
        exact ⟨SeqAt.RcAt.int_int a t b t', SeqAt.RcNeAt.int_int a t b t', SeqAt.EqAt.int_int a t b t'⟩
      | bl b =>
        rw [Has] at h2
        subst h2
        cases r2
        have ef : eqD (.int a) (.bl b) = (a == (if b then 1 else 0)) := by simp [eqD]
        rw [ef]
        exact ⟨SeqAt.RcAt.int_bool a t b, SeqAt.RcNeAt.int_bool a t b, SeqAt.EqAt.int_bool a t b⟩
      | str b =>
        rw [Has] at h2
        subst h2
        obtain ⟨t', rfl⟩ := r2
        have ef : eqD (.int a) (.str b) = false := by simp [eqD]
        rw [ef]
        exact ⟨SeqAt.RcAt.int_str a t b t', SeqAt.RcNeAt.int_str a t b t', SeqAt.EqAt.int_str a t b t'⟩
      | non =>
        rw [Has] at h2
        subst h2
        cases r2
        have ef : eqD (.int a) (.non) = false := by simp [eqD]
        rw [ef]
        exact ⟨SeqAt.RcAt.int_none a t, SeqAt.RcNeAt.int_none a t, SeqAt.EqAt.int_none a t⟩
      | lst b =>
        have h2k := h2
        rw [Has] at h2
        obtain ⟨q, ys, rfl, s2, l2⟩ := h2
        cases (show v = Value.ref q from r2)
        obtain ⟨jts, rv2, pl2, z2⟩ := I.list s2
        have hb := pl2.isList
        have ef : eqD (.int a) (.lst b) = false := by simp [eqD]
        rw [ef]
        exact ⟨SeqAt.RcAt.int_list a t hb hu, SeqAt.RcNeAt.int_list a t hb hu, SeqAt.EqAt.int_list a t hb hu⟩
      | tup b =>
        have h2k := h2
        rw [Has] at h2
        obtain ⟨q, ys, rfl, s2, l2⟩ := h2
        cases (show v = Value.ref q from r2)
        obtain ⟨jts, rv2, pl2, z2⟩ := I.tuple s2
        have hb : s.heap.IsTuple q jts.toArray := pl2
        have ef : eqD (.int a) (.tup b) = false := by simp [eqD]
        rw [ef]
        exact ⟨SeqAt.RcAt.int_tuple a t hb hu, SeqAt.RcNeAt.int_tuple a t hb hu, SeqAt.EqAt.int_tuple a t hb hu⟩
    | bl a =>
      rw [Has] at h1
      subst h1
      cases r1
      cases e with
      | int b =>
        rw [Has] at h2
        subst h2
        obtain ⟨t', rfl⟩ := r2
        have ef : eqD (.bl a) (.int b) = ((if a then 1 else 0) == b) := by simp [eqD]
        rw [ef]
        exact ⟨SeqAt.RcAt.bool_int a b t', SeqAt.RcNeAt.bool_int a b t', SeqAt.EqAt.bool_int a b t'⟩
      | bl b =>
        rw [Has] at h2
        subst h2
        cases r2
        have ef : eqD (.bl a) (.bl b) = (a == b) := by simp [eqD]
        rw [ef]
        exact ⟨SeqAt.RcAt.bool_bool a b, SeqAt.RcNeAt.bool_bool a b, SeqAt.EqAt.bool_bool a b⟩
      | str b =>
        rw [Has] at h2
        subst h2
        obtain ⟨t', rfl⟩ := r2
        have ef : eqD (.bl a) (.str b) = false := by simp [eqD]
        rw [ef]
        exact ⟨SeqAt.RcAt.bool_str a b t', SeqAt.RcNeAt.bool_str a b t', SeqAt.EqAt.bool_str a b t'⟩
      | non =>
        rw [Has] at h2
        subst h2
        cases r2
        have ef : eqD (.bl a) (.non) = false := by simp [eqD]
        rw [ef]
        exact ⟨SeqAt.RcAt.bool_none a, SeqAt.RcNeAt.bool_none a, SeqAt.EqAt.bool_none a⟩
      | lst b =>
        have h2k := h2
        rw [Has] at h2
        obtain ⟨q, ys, rfl, s2, l2⟩ := h2
        cases (show v = Value.ref q from r2)
        obtain ⟨jts, rv2, pl2, z2⟩ := I.list s2
        have hb := pl2.isList
        have ef : eqD (.bl a) (.lst b) = false := by simp [eqD]
        rw [ef]
        exact ⟨SeqAt.RcAt.bool_list a hb hu, SeqAt.RcNeAt.bool_list a hb hu, SeqAt.EqAt.bool_list a hb hu⟩
      | tup b =>
        have h2k := h2
        rw [Has] at h2
        obtain ⟨q, ys, rfl, s2, l2⟩ := h2
        cases (show v = Value.ref q from r2)
        obtain ⟨jts, rv2, pl2, z2⟩ := I.tuple s2
        have hb : s.heap.IsTuple q jts.toArray := pl2
        have ef : eqD (.bl a) (.tup b) = false := by simp [eqD]
        rw [ef]
        exact ⟨SeqAt.RcAt.bool_tuple a hb hu, SeqAt.RcNeAt.bool_tuple a hb hu, SeqAt.EqAt.bool_tuple a hb hu⟩
    | str a =>
      rw [Has] at h1
      subst h1
      obtain ⟨t, rfl⟩ := r1
      cases e with
      | int b =>
        rw [Has] at h2
        subst h2
        obtain ⟨t', rfl⟩ := r2
        have ef : eqD (.str a) (.int b) = false := by simp [eqD]
        rw [ef]
        exact ⟨SeqAt.RcAt.str_int a t b t', SeqAt.RcNeAt.str_int a t b t', SeqAt.EqAt.str_int a t b t'⟩
      | bl b =>
        rw [Has] at h2
        subst h2
        cases r2
        have ef : eqD (.str a) (.bl b) = false := by simp [eqD]
        rw [ef]
        exact ⟨SeqAt.RcAt.str_bool a t b, SeqAt.RcNeAt.str_bool a t b, SeqAt.EqAt.str_bool a t b⟩
      | str b =>
        rw [Has] at h2
        subst h2
        obtain ⟨t', rfl⟩ := r2
        have ef : eqD (.str a) (.str b) = (a == b) := by simp [eqD]
        rw [ef]
        exact ⟨SeqAt.RcAt.str_str a t b t', SeqAt.RcNeAt.str_str a t b t', SeqAt.EqAt.str_str a t b t'⟩
      | non =>
        rw [Has] at h2
        subst h2
        cases r2
        have ef : eqD (.str a) (.non) = false := by simp [eqD]
        rw [ef]
        exact ⟨SeqAt.RcAt.str_none a t, SeqAt.RcNeAt.str_none a t, SeqAt.EqAt.str_none a t⟩
      | lst b =>
        have h2k := h2
        rw [Has] at h2
        obtain ⟨q, ys, rfl, s2, l2⟩ := h2
        cases (show v = Value.ref q from r2)
        obtain ⟨jts, rv2, pl2, z2⟩ := I.list s2
        have hb := pl2.isList
        have ef : eqD (.str a) (.lst b) = false := by simp [eqD]
        rw [ef]
        exact ⟨SeqAt.RcAt.str_list a t hb hu, SeqAt.RcNeAt.str_list a t hb hu, SeqAt.EqAt.str_list a t hb hu⟩
      | tup b =>
        have h2k := h2
        rw [Has] at h2
        obtain ⟨q, ys, rfl, s2, l2⟩ := h2
        cases (show v = Value.ref q from r2)
        obtain ⟨jts, rv2, pl2, z2⟩ := I.tuple s2
        have hb : s.heap.IsTuple q jts.toArray := pl2
        have ef : eqD (.str a) (.tup b) = false := by simp [eqD]
        rw [ef]
        exact ⟨SeqAt.RcAt.str_tuple a t hb hu, SeqAt.RcNeAt.str_tuple a t hb hu, SeqAt.EqAt.str_tuple a t hb hu⟩
    | non =>
      rw [Has] at h1
      subst h1
      cases r1
      cases e with
      | int b =>
        rw [Has] at h2
        subst h2
        obtain ⟨t', rfl⟩ := r2
        have ef : eqD (.non) (.int b) = false := by simp [eqD]
        rw [ef]
        exact ⟨SeqAt.RcAt.none_int b t', SeqAt.RcNeAt.none_int b t', SeqAt.EqAt.none_int b t'⟩
      | bl b =>
        rw [Has] at h2
        subst h2
        cases r2
        have ef : eqD (.non) (.bl b) = false := by simp [eqD]
        rw [ef]
        exact ⟨SeqAt.RcAt.none_bool b, SeqAt.RcNeAt.none_bool b, SeqAt.EqAt.none_bool b⟩
      | str b =>
        rw [Has] at h2
        subst h2
        obtain ⟨t', rfl⟩ := r2
        have ef : eqD (.non) (.str b) = false := by simp [eqD]
        rw [ef]
        exact ⟨SeqAt.RcAt.none_str b t', SeqAt.RcNeAt.none_str b t', SeqAt.EqAt.none_str b t'⟩
      | non =>
        rw [Has] at h2
        subst h2
        cases r2
        have ef : eqD (.non) (.non) = true := by simp [eqD]
        rw [ef]
        exact ⟨SeqAt.RcAt.none_none , SeqAt.RcNeAt.none_none , SeqAt.EqAt.same _⟩
      | lst b =>
        have h2k := h2
        rw [Has] at h2
        obtain ⟨q, ys, rfl, s2, l2⟩ := h2
        cases (show v = Value.ref q from r2)
        obtain ⟨jts, rv2, pl2, z2⟩ := I.list s2
        have hb := pl2.isList
        have ef : eqD (.non) (.lst b) = false := by simp [eqD]
        rw [ef]
        exact ⟨SeqAt.RcAt.none_list hb hu, SeqAt.RcNeAt.none_list hb hu, SeqAt.EqAt.none_list hb hu⟩
      | tup b =>
        have h2k := h2
        rw [Has] at h2
        obtain ⟨q, ys, rfl, s2, l2⟩ := h2
        cases (show v = Value.ref q from r2)
        obtain ⟨jts, rv2, pl2, z2⟩ := I.tuple s2
        have hb : s.heap.IsTuple q jts.toArray := pl2
        have ef : eqD (.non) (.tup b) = false := by simp [eqD]
        rw [ef]
        exact ⟨SeqAt.RcAt.none_tuple hb hu, SeqAt.RcNeAt.none_tuple hb hu, SeqAt.EqAt.none_tuple hb hu⟩
    | lst a =>
      have h1k := h1
      rw [Has] at h1
      obtain ⟨p, xs, rfl, s1, l1⟩ := h1
      cases (show u = Value.ref p from r1)
      obtain ⟨its, rv1, pl1, z1⟩ := I.list s1
      have hl := pl1.isList
      have hd' : dptL a ≤ n := by rw [dpt] at hd; omega
      cases e with
      | int b =>
        rw [Has] at h2
        subst h2
        obtain ⟨t', rfl⟩ := r2
        have ef : eqD (.lst a) (.int b) = false := by simp [eqD]
        rw [ef]
        exact ⟨SeqAt.RcAt.list_int b t' hl hu, SeqAt.RcNeAt.list_int b t' hl hu, SeqAt.EqAt.list_int b t' hl hu⟩
      | bl b =>
        rw [Has] at h2
        subst h2
        cases r2
        have ef : eqD (.lst a) (.bl b) = false := by simp [eqD]
        rw [ef]
        exact ⟨SeqAt.RcAt.list_bool b hl hu, SeqAt.RcNeAt.list_bool b hl hu, SeqAt.EqAt.list_bool b hl hu⟩
      | str b =>
        rw [Has] at h2
        subst h2
        obtain ⟨t', rfl⟩ := r2
        have ef : eqD (.lst a) (.str b) = false := by simp [eqD]
        rw [ef]
        exact ⟨SeqAt.RcAt.list_str b t' hl hu, SeqAt.RcNeAt.list_str b t' hl hu, SeqAt.EqAt.list_str b t' hl hu⟩
      | non =>
        rw [Has] at h2
        subst h2
        cases r2
        have ef : eqD (.lst a) (.non) = false := by simp [eqD]
        rw [ef]
        exact ⟨SeqAt.RcAt.list_none hl hu, SeqAt.RcNeAt.list_none hl hu, SeqAt.EqAt.list_none hl hu⟩
      | lst b =>
        have h2k := h2
        rw [Has] at h2
        obtain ⟨q, ys, rfl, s2, l2⟩ := h2
        cases (show v = Value.ref q from r2)
        obtain ⟨jts, rv2, pl2, z2⟩ := I.list s2
        have hb := pl2.isList
        have recc := items_eq n (A := A) (by omega) I l1 l2 rv1 rv2 fun d e x y u v hm hm' g1 g2 k1 k2 => (ih A.in1 d e x y u v (Nat.le_trans (dpt_mem hm) hd') (by show A.units + 1 + n < cLine; omega) g1 g2 k1 k2).2.2
        have m1 := l1.len
        have m2 := l2.len
        have v1 := rv1.length
        have v2 := rv2.length
        have self : p = q → eqD (.lst a) (.lst b) = true := fun z => by subst z; rw [Has.inj I h1k h2k]; exact eqD_same _
        have ee : eqD (.lst a) (.lst b) = eqL a b := by rw [eqD]
        by_cases hs : its.toArray.size = jts.toArray.size
        · have hs' : a.length = b.length := by simp at hs; omega
          have hn : its.toArray.size = a.length := by simp; omega
          have k1 := SeqAt.RcAt.lists hl hb hs hu recc
          have k2 := SeqAt.RcNeAt.lists hl hb hs hu recc
          rw [hn, eqL_range a b hs', ← ee] at k1 k2
          exact ⟨k1, k2, eq_of_rc k1 self⟩
        · have hs' : ¬ a.length = b.length := by simp at hs; omega
          have hz : (its.toArray.size != jts.toArray.size) = true := by simpa using hs
          have ef : eqD (.lst a) (.lst b) = false := by rw [ee]; exact Bool.eq_false_iff.mpr fun z => hs' (eqL_len z)
          have k1 := SeqAt.RcAt.lists_lengths hl hb hz hu
          have k2 := SeqAt.RcNeAt.lists_lengths hl hb hz hu
          rw [← ef] at k1
          refine ⟨k1, ?_, eq_of_rc k1 self⟩
          rw [ef]
          exact k2
      | tup b =>
        have h2k := h2
        rw [Has] at h2
        obtain ⟨q, ys, rfl, s2, l2⟩ := h2
        cases (show v = Value.ref q from r2)
        obtain ⟨jts, rv2, pl2, z2⟩ := I.tuple s2
        have hb : s.heap.IsTuple q jts.toArray := pl2
        have ef : eqD (.lst a) (.tup b) = false := by simp [eqD]
        rw [ef]
        exact ⟨SeqAt.RcAt.list_tuple hl hb hu, SeqAt.RcNeAt.list_tuple hl hb hu, SeqAt.EqAt.list_tuple hl hb hu⟩
    | tup a =>
      have h1k := h1
      rw [Has] at h1
      obtain ⟨p, xs, rfl, s1, l1⟩ := h1
      cases (show u = Value.ref p from r1)
      obtain ⟨its, rv1, pl1, z1⟩ := I.tuple s1
      have hl : s.heap.IsTuple p its.toArray := pl1
      have hd' : dptL a ≤ n := by rw [dpt] at hd; omega
      cases e with
      | int b =>
        rw [Has] at h2
        subst h2
        obtain ⟨t', rfl⟩ := r2
        have ef : eqD (.tup a) (.int b) = false := by simp [eqD]
        rw [ef]
        exact ⟨SeqAt.RcAt.tuple_int b t' hl hu, SeqAt.RcNeAt.tuple_int b t' hl hu, SeqAt.EqAt.tuple_int b t' hl hu⟩
      | bl b =>
        rw [Has] at h2
        subst h2
        cases r2
        have ef : eqD (.tup a) (.bl b) = false := by simp [eqD]
        rw [ef]
        exact ⟨SeqAt.RcAt.tuple_bool b hl hu, SeqAt.RcNeAt.tuple_bool b hl hu, SeqAt.EqAt.tuple_bool b hl hu⟩
      | str b =>
        rw [Has] at h2
        subst h2
        obtain ⟨t', rfl⟩ := r2
        have ef : eqD (.tup a) (.str b) = false := by simp [eqD]
        rw [ef]
        exact ⟨SeqAt.RcAt.tuple_str b t' hl hu, SeqAt.RcNeAt.tuple_str b t' hl hu, SeqAt.EqAt.tuple_str b t' hl hu⟩
      | non =>
        rw [Has] at h2
        subst h2
        cases r2
        have ef : eqD (.tup a) (.non) = false := by simp [eqD]
        rw [ef]
        exact ⟨SeqAt.RcAt.tuple_none hl hu, SeqAt.RcNeAt.tuple_none hl hu, SeqAt.EqAt.tuple_none hl hu⟩
      | lst b =>
        have h2k := h2
        rw [Has] at h2
        obtain ⟨q, ys, rfl, s2, l2⟩ := h2
        cases (show v = Value.ref q from r2)
        obtain ⟨jts, rv2, pl2, z2⟩ := I.list s2
        have hb := pl2.isList
        have ef : eqD (.tup a) (.lst b) = false := by simp [eqD]
        rw [ef]
        exact ⟨SeqAt.RcAt.tuple_list hl hb hu, SeqAt.RcNeAt.tuple_list hl hb hu, SeqAt.EqAt.tuple_list hl hb hu⟩
      | tup b =>
        have h2k := h2
        rw [Has] at h2
        obtain ⟨q, ys, rfl, s2, l2⟩ := h2
        cases (show v = Value.ref q from r2)
        obtain ⟨jts, rv2, pl2, z2⟩ := I.tuple s2
        have hb : s.heap.IsTuple q jts.toArray := pl2
        have recc := items_eq n (A := A) (by omega) I l1 l2 rv1 rv2 fun d e x y u v hm hm' g1 g2 k1 k2 => (ih A.in1 d e x y u v (Nat.le_trans (dpt_mem hm) hd') (by show A.units + 1 + n < cLine; omega) g1 g2 k1 k2).2.2
        have m1 := l1.len
        have m2 := l2.len
        have v1 := rv1.length
        have v2 := rv2.length
        have self : p = q → eqD (.tup a) (.tup b) = true := fun z => by subst z; rw [Has.inj I h1k h2k]; exact eqD_same _
        have ee : eqD (.tup a) (.tup b) = eqL a b := by rw [eqD]
        have hn : its.toArray.size = a.length := by simp; omega
        have hn' : jts.toArray.size = b.length := by simp; omega
        have k1 := SeqAt.RcAt.tuples hl hb hu recc
        have k2 := SeqAt.RcNeAt.tuples hl hb hu recc
        rw [hn, hn', all_min_eqL a b, ← ee] at k1 k2
        exact ⟨k1, k2, eq_of_rc k1 self⟩
end
section
variable {X : Cx}
def rEqD (K : PySem.W.Frag) (A : Around) (neg : Bool) : R2 := fun x y H Q => ∃ d e, Has K H d x ∧ Has K H e y ∧ A.units + dpt d < cLine ∧ Q (.bl (if neg then !eqD d e else eqD d e)) H
theorem op_eqD : OpR X (compareOp .Eq) (rEqD X.K X.A false) := by
  intro pins s σ H x y v u Q I rx ry h
  obtain ⟨d, e, h1, h2, hA, q⟩ := h
  exact (eq_deep I (dpt d) X.A d e x y v u (Nat.le_refl _) hA h1 h2 rx ry).1 _ _ _ _ ⟨.bl (eqD d e), H, I, rfl, q⟩
theorem op_neD : OpR X (compareOp .NotEq) (rEqD X.K X.A true) := by
  intro pins s σ H x y v u Q I rx ry h
  obtain ⟨d, e, h1, h2, hA, q⟩ := h
  exact (eq_deep I (dpt d) X.A d e x y v u (Nat.le_refl _) hA h1 h2 rx ry).2.1 _ _ _ _ ⟨.bl (!eqD d e), H, I, rfl, q⟩
end
end L2

/-! OWN RULES 4: calls of the program's defs by their promises; frames; small lemmas -/
namespace L2
open PySem PySem.Spec PyProof.Rows
/-- the def x, as a call finds it, keeps its promise -/
structure Cal (P : Program) (w : World) (K : PySem.W.Frag) (mg : Str → Option Value) (base : Heap) (k : Nat) (x : Str) (ps : List Str) (sp : Sp) : Prop where
  ex : ∃ (f : Addr) (fd : FuncData), FnOk P w K mg base CX0 k f fd ps sp ∧ mg x = some (.ref f) ∧ PySem.W.keepIn K (.ref f) = true ∧ Binds K fd ps []
theorem pe_def {X : Cx} {j k : Nat} {x : Str} {ps : List Str} {sp : Sp} {e : Expr} {es : List Expr} {t : TA} {p pos : Pos} (D : Cal X.prog X.w X.K X.mg X.base j x ps sp) (hr : Room k X.A) (hg : Gl X x) (ha : PA X (e :: es) t) (hjk : j ≤ k := by omega) (hdb : (x == ("__debug__" : Str)) = false := by decide)
    (he : starEach (e :: es) X.env = (false, eval e X.env) :: starEach es X.env := by rfl) (hpl : (backTo pos (starEach es X.env)).any (·.1) = false := by rfl) : PE X (.Call (.Name x p) (e :: es) [] pos) (tCall sp [] E0 t) := by
  obtain ⟨f, fd, F, hm, hk, hb⟩ := D.ex
  exact pe_call F (hr.mono hjk) hg hm hk hb .nil pass0 ha hdb he hpl
/-- a def of the text, as the top left it -/
structure Dfn (K : PySem.W.Frag) (mg : Str → Option Value) (x : Str) (st : Stmt) (ps : List Str) : Prop where
  ex : ∃ (f : Addr) (fd : FuncData), Fun K x x st f fd ∧ mg x = some (.ref f) ∧ Binds K fd ps []
theorem Dfn.cal {P : Program} {w : World} {K : PySem.W.Frag} {mg : Str → Option Value} {base : Heap} {k : Nat} {x : Str} {st : Stmt} {ps : List Str} {sp : Sp} (D : Dfn K mg x st ps) (h : ∀ f fd, Fun K x x st f fd → FnOk P w K mg base CX0 k f fd ps sp) : Cal P w K mg base k x ps sp := by
  obtain ⟨f, fd, F, hm, hb⟩ := D.ex
  exact ⟨f, fd, h f fd F, hm, F.kp, hb⟩

/-! ### heaps -/
theorem Same.rfl' {H : Hp} : Same H H := fun _ _ e => e
theorem Same.trans' {H H1 H2 : Hp} (a : Same H H1) (b : Same H1 H2) : Same H H2 := fun c o e => b c o (a c o e)
theorem same_new {H : Hp} {p : Addr} (h : H p = none) (o : HO) : Same H (upd H p o) := fun b u q => by rw [upd_ne (ne_of_none q h)]; exact q
theorem Same.none {H H' : Hp} (a : Same H H') {p : Addr} (h : H' p = none) : H p = none := by
  cases e : H p with
  | none => rfl
  | some o => rw [a p o e] at h; cases h
/-- all but a and c is as it was -/
def Kp (a c : Addr) (H H' : Hp) : Prop := ∀ b o, H b = some o → b ≠ a → b ≠ c → H' b = some o
theorem Kp.same {a c : Addr} {H H' : Hp} (h : Same H H') : Kp a c H H' := fun b o e _ _ => h b o e
theorem Kp.trans {a c : Addr} {H H1 H2 : Hp} (h : Kp a c H H1) (g : Kp a c H1 H2) : Kp a c H H2 := fun b o e n1 n2 => g b o (h b o e n1 n2) n1 n2
/-! ### an item -/
theorem ixN_int {n : Nat} {i : Int} (h0 : 0 ≤ i) (h1 : i < (n : Int)) : ixN n i = some i.toNat := by
  unfold ixN
  rw [if_pos h0, if_pos h1]
theorem atI_int {α : Type} {xs : List α} {i : Int} {v : α} (h0 : 0 ≤ i) (hv : xs[i.toNat]? = some v) : atI xs i = some v := by
  have h1 : i.toNat < xs.length := (List.getElem?_eq_some_iff.mp hv).1
  unfold atI
  rw [ixN_int h0 (by omega)]
  exact hv
/-- an item of a list of ints, at a place that is reckoned -/
theorem atI_ints {ns : List Int} {i : Int} (h0 : 0 ≤ i) (h1 : i < (ns.length : Int)) : atI (ns.map V.int) i = some (.int (ns.getD i.toNat 0)) := by
  have h2 : i.toNat < ns.length := by omega
  refine atI_int h0 ?_
  rw [List.getElem?_map, List.getElem?_eq_getElem h2, List.getD_eq_getElem?_getD, List.getElem?_eq_getElem h2]
  rfl
theorem rIx_sq {K : PySem.W.Frag} {b : Bool} {H : Hp} {p : Addr} {xs : List V} {i : Int} {v : V} {Q : VK} (h : SqG b K H p xs) (hv : atI xs i = some v) (q : Q v H) : rIx K (.ref p) (.int i) H Q := by
  cases b with
  | true => exact .inr (.inl ⟨p, xs, i, v, rfl, rfl, h, hv, q⟩)
  | false => exact .inl ⟨p, xs, i, v, rfl, rfl, h, hv, q⟩
theorem iteBF {A B : Prop} {b : Bool} (hb : b = false) (h : B) : if b = true then A else B := by rw [hb]; exact iteF h
theorem iteBT {A B : Prop} {b : Bool} (hb : b = true) (h : A) : if b = true then A else B := by rw [hb]; exact iteT h
theorem qtrue {Q : VK} {b : Bool} {H : Hp} (hb : b = true) (q : Q (.bl true) H) : Q (.bl b) H := by rw [hb]; exact q
theorem iteB {A B : Prop} {b : Bool} (h1 : b = true → A) (h2 : b = false → B) : if b = true then A else B := by
  cases b with
  | true => exact iteT (h1 rfl)
  | false => exact iteF (h2 rfl)
end L2

/-! OWN RULES 5: comprehensions whose items are data; data of tuples alone outlives every change -/
namespace L2
open PySem PySem.Spec PyProof.Rows
/-- what is a tuple stays -/
def isT : HO → Bool
  | .tup _ => true
  | .frz _ (.tup _) => true
  | _ => false
def TSame (H H' : Hp) : Prop := ∀ b o, H b = some o → isT o = true → H' b = some o
theorem Same.t {H H' : Hp} (h : Same H H') : TSame H H' := fun b o e _ => h b o e
theorem TSame.trans {H H1 H2 : Hp} (h : TSame H H1) (g : TSame H1 H2) : TSame H H2 := fun b o e t => g b o (h b o e t) t
theorem tsame_upd {H : Hp} {p : Addr} {o o' : HO} (h : H p = some o) (ht : isT o = false) : TSame H (upd H p o') := fun b u e t => by
  have n : b ≠ p := fun z => by
    subst z
    rw [h] at e
    cases e
    rw [ht] at t
    cases t
  rw [upd_ne n]
  exact e
mutual
def tupO : Dt → Bool
  | .lst _ => false
  | .tup ds => tupOL ds
  | _ => true
def tupOL : List Dt → Bool
  | [] => true
  | d :: r => tupO d && tupOL r
end
theorem SqT.tsame {K : PySem.W.Frag} {H H' : Hp} {a : Addr} {xs : List V} (e : TSame H H') (h : SqT K H a xs) : SqT K H' a xs := by
  rcases h with (h | ⟨o, h⟩) | h
  · exact .inl (.inl (e _ _ h rfl))
  · exact .inl (.inr ⟨o, e _ _ h rfl⟩)
  · exact .inr h
mutual
theorem Has.tsame {K : PySem.W.Frag} {H H' : Hp} (e : TSame H H') : ∀ {d : Dt} {v : V}, tupO d = true → Has K H d v → Has K H' d v
  | .int i, v, _, h => by rw [Has] at h ⊢; exact h
  | .bl i, v, _, h => by rw [Has] at h ⊢; exact h
  | .str i, v, _, h => by rw [Has] at h ⊢; exact h
  | .non, v, _, h => by rw [Has] at h ⊢; exact h
  | .lst ds, v, t, h => by simp [tupO] at t
  | .tup ds, v, t, h => by
    rw [tupO] at t
    rw [Has] at h ⊢
    obtain ⟨a, xs, hv, hs, hl⟩ := h
    exact ⟨a, xs, hv, SqT.tsame e hs, HasL.tsame e t hl⟩
theorem HasL.tsame {K : PySem.W.Frag} {H H' : Hp} (e : TSame H H') : ∀ {ds : List Dt} {xs : List V}, tupOL ds = true → HasL K H ds xs → HasL K H' ds xs
  | [], xs, _, h => by rw [HasL] at h ⊢; exact h
  | d :: r, xs, t, h => by
    rw [tupOL, Bool.and_eq_true] at t
    rw [HasL] at h ⊢
    obtain ⟨x, t', hx, h1, h2⟩ := h
    exact ⟨x, t', hx, Has.tsame e t.1 h1, HasL.tsame e t.2 h2⟩
end
theorem tupOL_of {ds : List Dt} (h : ∀ d ∈ ds, tupO d = true) : tupOL ds = true := by
  induction ds with
  | nil => rw [tupOL]
  | cons d r ih => rw [tupOL, h d List.mem_cons_self, ih fun x hx => h x (List.mem_cons_of_mem _ hx)]; rfl
theorem tupO_ints (ns : List Int) : tupO (.tup (di ns)) = true := by
  rw [tupO]
  refine tupOL_of fun d hd => ?_
  obtain ⟨n, _, rfl⟩ := List.mem_map.mp hd
  simp [tupO]
theorem filter_succ {d : Nat → Dt} (keep : Nat → Bool) (i : Nat) : ((List.range (i + 1)).filter keep).map d = ((List.range i).filter keep).map d ++ (if keep i = true then [d i] else []) := by
  rw [List.range_succ, List.filter_append, List.map_append]
  cases h : keep i <;> simp [h]
/-- THE RULE: a comprehension over n items, the i-th kept if keep i, its value then d i -/
theorem comp_gen {K : PySem.W.Frag} {J : It} {fr : List (Option Nat)} {g : Shared → Hp → List Addr → TG} {tt : Shared → Hp → List Addr → TT} {te : Shared → Hp → List Addr → TE} {σ : St} {H1 : Hp} {Q : VK} (Ok : St → Prop) (n : Nat) (hn : n < sizeLine) (d : Nat → Dt) (keep : Nat → Bool) (hd : ∀ i, tupO (d i) = true) (h0 : Ok (compSt fr σ))
    (hgo : ∀ i H', Same H1 H' → i < n → J.go i H') (hst : ∀ H', Same H1 H' → J.stop n H')
    (turn : ∀ s3 H3' fp i σ' H', i < n → Ok σ' → Same H1 H' → ∀ x H2, J.yld i H' x H2 → ∀ (Nx : St → Hp → Prop) (Ap : St → V → Hp → Prop), (keep i = false → ∀ σ2 H4, Ok σ2 → Same H' H4 → Nx σ2 H4) → (keep i = true → ∀ σ2 v H5, Ok σ2 → Same H' H5 → Has K H5 (d i) v → Ap σ2 v H5) →
      g s3 H3' fp x σ' H2 fun σ2 H3 => tt s3 H3' fp σ2 H3 fun b H4 => if b = true then te s3 H3' fp σ2 H4 (fun v H5 => Ap σ2 v H5) else Nx σ2 H4)
    (fin : ∀ p acc H', H1 p = none → Same H1 H' → H' p = some (.lst acc) → HasL K H' (((List.range n).filter keep).map d) acc → Q (.ref p) H') :
    CompB J fr g tt te σ H1 Q := by
  intro p hp s3 H3' fp
  have tall : ∀ i, tupOL (((List.range i).filter keep).map d) = true := fun i => tupOL_of fun x hx => by
    obtain ⟨j, _, rfl⟩ := List.mem_map.mp hx
    exact hd j
  refine ⟨fun i m σ' H' => m = n - i ∧ i ≤ n ∧ Ok σ' ∧ Same H1 H' ∧ ∃ acc, H' p = some (.lst acc) ∧ HasL K H' (((List.range i).filter keep).map d) acc, ⟨n, by simp, Nat.zero_le _, h0, same_new hp _, [], upd_same, hasL_nil⟩, ?_⟩
  rintro i m σ' H' ⟨rfl, hi, ok, sm, acc, hacc, hl⟩
  by_cases hlt : i < n
  · refine .inr ⟨hgo i H' sm hlt, fun x H2 hy => ?_⟩
    refine turn s3 H3' fp i σ' H' hlt ok sm x H2 hy (fun σ2 H4 => ∃ m', m' < n - i ∧ m' = n - (i + 1) ∧ i + 1 ≤ n ∧ Ok σ2 ∧ Same H1 H4 ∧ ∃ acc, H4 p = some (.lst acc) ∧ HasL K H4 (((List.range (i + 1)).filter keep).map d) acc) (fun σ2 v H5 => _) (fun hk σ2 H4 ok2 s4 => ?_) (fun hk σ2 v H5 ok2 s5 hv => ?_)
    · refine ⟨n - (i + 1), by omega, rfl, hlt, ok2, sm.trans' s4, acc, s4 _ _ hacc, ?_⟩
      rw [filter_succ, hk]
      simpa using HasL.same s4 hl
    · have h5 : H5 p = some (.lst acc) := s5 _ _ hacc
      have len : acc.length ≤ i := by
        have e := hl.len
        have e2 : (((List.range i).filter keep).map d).length ≤ i := by
          rw [List.length_map]
          exact Nat.le_trans (List.length_filter_le _ _) (by rw [List.length_range]; exact Nat.le_refl _)
        omega
      have ts : TSame H5 (upd H5 p (.lst (acc ++ [v]))) := tsame_upd h5 rfl
      refine ⟨acc, h5, by omega, n - (i + 1), by omega, rfl, hlt, ok2, fun b o e => ?_, acc ++ [v], upd_same, ?_⟩
      · rw [upd_ne (ne_of_none e hp)]
        exact s5 b o (sm b o e)
      · rw [filter_succ, hk]
        exact HasL.append (HasL.tsame ts (tall i) (HasL.same s5 hl)) (hasL_cons (Has.tsame ts (hd i) hv) hasL_nil)
  · have e : i = n := by omega
    subst e
    exact .inl ⟨hst H' sm, fin p acc H' hp sm hacc hl⟩
/-- .. in a def: the tables are closed terms -/
theorem pe_compF {X : Cx} {N ps : List Str} {esc : Scope} (S : FnScope N ps esc) (N' : List Str) (fr : List (Option Nat)) (nd : N'.Nodup) {elt target iter : Expr} {ifs : List Expr} {sc : Scope} {pos : Pos} {wi : TI} {g : Shared → Hp → List Addr → TG} {tt : Shared → Hp → List Addr → TT} {te : Shared → Hp → List Addr → TE} (C : compOk N esc sc N' fr = true)
    (hi : PI X target iter wi) (hg : ∀ s3 H3 fp, PG (cxComp X N' sc s3 H3 fp) target (g s3 H3 fp)) (ht : ∀ s3 H3 fp, PTs (cxComp X N' sc s3 H3 fp) ifs (tt s3 H3 fp)) (he : ∀ s3 H3 fp, PE (cxComp X N' sc s3 H3 fp) elt (te s3 H3 fp))
    (hc : X.calm = true := by rfl) (hN : X.N = N := by rfl) (hS : X.env.scope = esc := by rfl) (hs : ∀ x, foldedSetIterable iter X.env x = pure x := by intro _; rfl) : PE X (.ListComp elt [⟨target, iter, ifs, 0⟩] sc pos) (tComp wi fr g tt te) :=
  pe_comp N' fr hc (by rw [hN, hS]; exact C) hi hg ht he hs
theorem yes_then {σ : St} {H : Hp} {A B : Hp → Prop} (h : A H) : tYes σ H (fun b H4 => if b = true then A H4 else B H4) := by
  unfold tYes
  exact iteT h
theorem gname_yes {i : Nat} {v : V} {σ : St} {H : Hp} {A B : St → Hp → Prop} (h : A (σ.set i (some v)) H) : gName i v σ H (fun σ2 H3 => tYes σ2 H3 (fun b H4 => if b = true then A σ2 H4 else B σ2 H4)) := by
  unfold gName tYes
  exact iteT h
/-- the bools of a list -/
theorem bools_hasL {K : PySem.W.Frag} {H : Hp} : ∀ {bs : List Bool} {xs : List V}, HasL K H (bs.map Dt.bl) xs → xs = bools bs
  | [], xs, h => by
    have h : HasL K H [] xs := h
    rw [HasL] at h; exact h
  | n :: r, xs, h => by
    have h : HasL K H (Dt.bl n :: r.map Dt.bl) xs := h
    rw [HasL] at h
    obtain ⟨x, t, rfl, h1, h2⟩ := h
    rw [Has] at h1
    rw [h1, bools_hasL h2]
    rfl
/-! iterables -/
def Its (K : PySem.W.Frag) (b : Bool) (a : Addr) : It := match b with
  | true => Itt K a
  | false => Itl K a
def iSq (K : PySem.W.Frag) (tl : TE) : TI := fun σ H R => tl σ H fun x H1 => ∃ b a xs, x = .ref a ∧ SqG b K H1 a xs ∧ R (Its K b a) H1
theorem pi_seq {X : Cx} {tg l : Expr} {tl : TE} (hl : PE X l tl) : PI X tg l (iSq X.K tl) := by
  intro pins s σ H R I h
  refine thn (hl pins s σ H _ I h) fun v s1 ⟨x, H1, I1, r1, q1⟩ => ?_
  obtain ⟨b, a, xs, rfl, hq, q⟩ := q1
  cases r1
  cases b with
  | true =>
    obtain ⟨its, rv, p, hz⟩ := I1.tuple hq
    refine wpAny_pyIter_tuple (show s1.heap.IsTuple a its.toArray from p) ⟨s1.heap.objs.size, [s1.heap.objs.size], _, _, H1, rfl, I1.kept (t' := s1.toks) fun b o e => Heap.get?_push_of_some _ e, turn_tuple a _, ⟨_, Heap.get?_push_size _ rfl, rfl, rfl⟩, fun b hb => ?_, q⟩
    have e : b = s1.heap.objs.size := by simpa using hb
    subst e
    exact I1.fpOk (Nat.le_refl _) (I1.hok.fresh (Nat.le_refl _))
  | false =>
    obtain ⟨its, rv, p, hz⟩ := I1.list hq
    refine wpAny_pyIter_list p.isList ⟨s1.heap.objs.size, [s1.heap.objs.size], _, _, H1, rfl, I1.kept (t' := s1.toks) fun b o e => Heap.get?_push_of_some _ e, turn_list a _, ⟨_, Heap.get?_push_size _ rfl, rfl, rfl⟩, fun b hb => ?_, q⟩
    have e : b = s1.heap.objs.size := by simpa using hb
    subst e
    exact I1.fpOk (Nat.le_refl _) (I1.hok.fresh (Nat.le_refl _))
theorem its_yld {K : PySem.W.Frag} {b : Bool} {a : Addr} {xs : List V} {H1 H' H2 : Hp} {i : Nat} {v : V} (h1 : SqG b K H1 a xs) (s : Same H1 H') (h : (Its K b a).yld i H' v H2) : H2 = H' ∧ xs[i]? = some v := by
  cases b with
  | true => exact ⟨h.1, h.2 xs (SqG.same s h1)⟩
  | false => exact ⟨h.1, h.2 xs (SqG.same s h1)⟩
theorem its_go {K : PySem.W.Frag} {b : Bool} {a : Addr} {xs : List V} {H1 : Hp} (h1 : SqG b K H1 a xs) {n : Nat} (hx : xs.length = n) : ∀ i H', Same H1 H' → i < n → (Its K b a).go i H' := fun i H' s hi => by
  cases b with
  | true => exact ⟨xs, xs[i]'(by omega), SqT.same s h1, List.getElem?_eq_getElem _⟩
  | false => exact ⟨xs, xs[i]'(by omega), SqL.same s h1, List.getElem?_eq_getElem _⟩
theorem its_stop {K : PySem.W.Frag} {b : Bool} {a : Addr} {xs : List V} {H1 : Hp} (h1 : SqG b K H1 a xs) {n : Nat} (hx : xs.length = n) : ∀ H', Same H1 H' → (Its K b a).stop n H' := fun H' s => by
  cases b with
  | true => exact ⟨xs, SqT.same s h1, by omega⟩
  | false => exact ⟨xs, SqL.same s h1, by omega⟩

theorem itz_go {K : PySem.W.Frag} {b1 b2 : Bool} {a1 a2 : Addr} {xs ys : List V} {H1 : Hp} (h1 : SqG b1 K H1 a1 xs) (h2 : SqG b2 K H1 a2 ys) {n : Nat} (hx : xs.length = n) (hy : ys.length = n) : ∀ i H', Same H1 H' → i < n → (Itz K b1 a1 b2 a2).go i H' := fun i H' s hi =>
  ⟨xs, ys, xs[i]'(by omega), ys[i]'(by omega), SqG.same s h1, SqG.same s h2, List.getElem?_eq_getElem _, List.getElem?_eq_getElem _⟩
theorem itz_stop {K : PySem.W.Frag} {b1 b2 : Bool} {a1 a2 : Addr} {xs ys : List V} {H1 : Hp} (h1 : SqG b1 K H1 a1 xs) (h2 : SqG b2 K H1 a2 ys) {n : Nat} (hx : xs.length = n) (hy : ys.length = n) : ∀ H', Same H1 H' → (Itz K b1 a1 b2 a2).stop n H' := fun H' s =>
  ⟨xs, ys, SqG.same s h1, SqG.same s h2, .inl (by omega)⟩
theorem itz_yld {K : PySem.W.Frag} {b1 b2 : Bool} {a1 a2 : Addr} {xs ys : List V} {H1 H' H2 : Hp} {i : Nat} {v : V} (h1 : SqG b1 K H1 a1 xs) (h2 : SqG b2 K H1 a2 ys) (s : Same H1 H') (h : (Itz K b1 a1 b2 a2).yld i H' v H2) :
    ∃ p x y, v = .ref p ∧ Same H' H2 ∧ H2 p = some (.tup [x, y]) ∧ xs[i]? = some x ∧ ys[i]? = some y := by
  obtain ⟨p, x, y, hp, rfl, rfl, g1, g2⟩ := h
  exact ⟨p, x, y, rfl, same_new hp _, upd_same, g1 xs (SqG.same s h1), g2 ys (SqG.same s h2)⟩
end L2

/-! OWN RULES 6: what is new, with the heap behind it as a letter -/
namespace L2
open PySem PySem.Spec PyProof.Rows
/-- a new object o, and what is wanted then -/
def New (o : HO) (H : Hp) (Q : VK) : Prop := ∀ p H', H p = none → Same H H' → H' p = some o → Q (.ref p) H'
theorem New.at {o : HO} {H : Hp} {Q : VK} (h : New o H Q) {p : Addr} (hp : H p = none) : Q (.ref p) (upd H p o) := h p _ hp (same_new hp o) upd_same
section
variable {X : Cx} {es : List Expr} {t : TA} {pos : Pos}
def tTupA (t : TA) : TE := fun σ H Q => t σ H fun xs H1 => xs.length ≤ sizeLine ∧ New (.tup xs) H1 Q
def tLstA (t : TA) : TE := fun σ H Q => t σ H fun xs H1 => xs.length ≤ sizeLine ∧ New (.lst xs) H1 Q
theorem pe_tupA {x1} (h : PA X es t) : PE X (.Tuple es x1 pos) (tTupA t) := by
  intro pins s σ H Q I hq
  refine wpAny_Tuple_spliced (thn (h pos pins s σ H _ I hq) fun us s1 ⟨xs, H1, I1, r, z, q⟩ => ⟨by rw [← r.length]; exact z, ?_⟩)
  refine ⟨.ref s1.heap.objs.size, upd H1 s1.heap.objs.size (.tup xs), I1.laid (t' := s1.toks) (fun b u e => Heap.get?_push_of_some _ e) (Nat.le_refl _) ⟨z, us, r, ⟨_, Heap.get?_push_size _ rfl, rfl, _, rfl⟩⟩, rfl, q.at (I1.hok.fresh (Nat.le_refl _))⟩
theorem pe_lstA (h : PA X es t) : PE X (.List es pos) (tLstA t) := by
  intro pins s σ H Q I hq
  refine wpAny_List_spliced (thn (h pos pins s σ H _ I hq) fun us s1 ⟨xs, H1, I1, r, z, q⟩ => ⟨by rw [← r.length]; exact z, ?_⟩)
  refine ⟨.ref s1.heap.objs.size, upd H1 s1.heap.objs.size (.lst xs), I1.laid (t' := s1.toks) (fun b u e => Heap.get?_push_of_some _ e) (Nat.le_refl _) ⟨z, us, 0, r, Heap.get?_push_size _ rfl⟩, rfl, q.at (I1.hok.fresh (Nat.le_refl _))⟩
theorem CallR.imp {f : Value} {r r' : List V → Hp → VK → Prop} (h : CallR X f r) (k : ∀ vs H Q, r' vs H Q → r vs H Q) : CallR X f r' := fun pins s σ H xs us Q I rv q => h pins s σ H xs us Q I rv (k _ _ _ q)
theorem OpR.imp {f : Value → Value → Sem Value} {r r' : R2} (h : OpR X f r) (k : ∀ x y H Q, r' x y H Q → r x y H Q) : OpR X f r' := fun pins s σ H x y v u Q I rx ry q => h pins s σ H x y v u Q I rx ry (k _ _ _ _ q)
/-- list(xs), tuple(xs) of a list or a tuple -/
theorem call_listA : CallR X (.type "list") (fun xs H Q => ∃ b p ys, xs = [.ref p] ∧ SqG b X.K H p ys ∧ New (.lst ys) H Q) := call_list_of.imp fun vs H Q ⟨b, p, ys, e, h, q⟩ => by
  refine ⟨p, ys, e, ?_, fun l hl => q.at hl⟩
  cases b with
  | true => exact .inr h
  | false => exact .inl h
/-- tuple(xs) of a list or a tuple -/
theorem call_tupleG : CallR X (.type "tuple") (fun xs H Q => ∃ b p ys, xs = [.ref p] ∧ SqG b X.K H p ys ∧ ∀ q H', Same H H' → SqT X.K H' q ys → Q (.ref q) H') := call_tuple_of.imp fun vs H Q ⟨b, p, ys, e, h, q⟩ => by
  cases b with
  | true => exact ⟨p, ys, e, .inr ⟨h, q p H .rfl' h⟩⟩
  | false => exact ⟨p, ys, e, .inl ⟨h, fun l hl => q l _ (same_new hl _) (SqT.of upd_same)⟩⟩
/-- len of a list or a tuple -/
theorem call_lenA : CallR X (.builtin "len") (fun xs H Q => ∃ b p ys, xs = [.ref p] ∧ SqG b X.K H p ys ∧ Q (.int ys.length) H) := call_len_seq.imp fun vs H Q ⟨b, p, ys, e, h, q⟩ => by
  refine ⟨p, ys, e, ?_, q⟩
  cases b with
  | true => exact .inr h
  | false => exact .inl h
/-- an item of a list or a tuple -/
def rIxG (K : PySem.W.Frag) : R2 := fun x y H Q => ∃ b p xs i v, x = .ref p ∧ y = .int i ∧ SqG b K H p xs ∧ atI xs i = some v ∧ Q v H
theorem ix_G : IxR X (rIxG X.K) := fun value slice pins s σ H x y v u Q I rx ry ⟨b, p, xs, i, z, e1, e2, hq, ha, q⟩ hs => by
  subst e1 e2
  exact ix_seq value slice pins s σ H (.ref p) (.int i) v u Q I rx ry (rIx_sq hq ha q) hs
end
end L2

/-! OWN RULES 7: min and max, three comparisons in a row, slices, lists put together -/
namespace L2
open PySem PySem.Spec PyProof.Rows
/-- a list of ints as the library's pairs -/
theorem vals_toks : ∀ {ns : List Int} {us : List Value}, Vals (ns.map V.int) us → ∃ ps : List (Int × Tok), us = ps.map (fun p => Value.int p.1 p.2) ∧ ps.map (·.1) = ns
  | [], _, .nil => ⟨[], rfl, rfl⟩
  | n :: r, _, .cons h t => by
    obtain ⟨ps, e1, e2⟩ := vals_toks t
    obtain ⟨tk, e⟩ := h
    exact ⟨(n, tk) :: ps, by rw [e, e1]; rfl, by rw [← e2]; rfl⟩
section
variable {X : Cx}
end
section
variable {X : Cx} {a b c d : Expr} {ta tb tc td : TE} {pos : Pos}
/-- xs[lo:hi] of a list, or of a tuple (not the whole of it) -/
theorem sl_listA : SlR X (fun x lo hi H Q => ∃ a xs, x = .ref a ∧ SqL X.K H a xs ∧ New (.lst (cutV xs lo hi)) H Q) := fun pins s σ H x v vl vu lo hi sl Q I rx hs pl pu ⟨a, xs, e, h, q⟩ => sl_list pins s σ H x v vl vu lo hi sl Q I rx hs pl pu ⟨a, xs, e, h, fun p hp => q.at hp⟩
theorem sl_tupA : SlR X (fun x lo hi H Q => ∃ a xs, x = .ref a ∧ SqT X.K H a xs ∧ ¬ (HT.sIx xs.length 0 lo = 0 ∧ HT.sIx xs.length xs.length hi = xs.length) ∧ New (.tup (cutV xs lo hi)) H Q) := fun pins s σ H x v vl vu lo hi sl Q I rx hs pl pu ⟨a, xs, e, h, hw, q⟩ => sl_tup pins s σ H x v vl vu lo hi sl Q I rx hs pl pu ⟨a, xs, e, h, hw, fun p hp => q.at hp⟩
def rSlG (K : PySem.W.Frag) : V → Option Int → Option Int → Hp → VK → Prop := fun x lo hi H Q => ∃ b a xs, x = .ref a ∧ SqG b K H a xs ∧ (b = true → ¬ (HT.sIx xs.length 0 lo = 0 ∧ HT.sIx xs.length xs.length hi = xs.length)) ∧ ∀ p H', H p = none → Same H H' → SqG b K H' p (cutV xs lo hi) → Q (.ref p) H'
theorem sl_G : SlR X (rSlG X.K) := fun pins s σ H x v vl vu lo hi sl Q I rx hs pl pu ⟨b, a, xs, e, h, hw, q⟩ => by
  cases b with
  | true => exact sl_tupA pins s σ H x v vl vu lo hi sl Q I rx hs pl pu ⟨a, xs, e, h, hw rfl, fun p H' hp g e => q p H' hp g (SqT.of e)⟩
  | false => exact sl_listA pins s σ H x v vl vu lo hi sl Q I rx hs pl pu ⟨a, xs, e, h, fun p H' hp g e => q p H' hp g (SqL.of e)⟩
theorem op_catA : OpR X (binaryOp .Add) (fun x y H Q => ∃ l b xs zs, x = .ref l ∧ y = .ref b ∧ H l = some (.lst xs) ∧ H b = some (.lst zs) ∧ xs.length + zs.length ≤ sizeLine ∧ New (.lst (xs ++ zs)) H Q) := op_cat.imp fun x y H Q ⟨l, b, xs, zs, e1, e2, h1, h2, hz, q⟩ => ⟨l, b, xs, zs, e1, e2, h1, h2, hz, fun p hp => q.at hp⟩
end
end L2
namespace L2
open PySem PySem.Spec PyProof.Rows
theorem map_getD {α β : Type} (l : List α) (d : α) (f : α → β) : (List.range l.length).map (fun i => f (l.getD i d)) = l.map f := by
  apply List.ext_getElem
  · simp
  · intro i h1 h2
    have h3 : i < l.length := by simpa using h2
    simp [List.getD_eq_getElem?_getD, h3]
theorem filter_tt (n : Nat) : (List.range n).filter (fun _ => true) = List.range n := by simp
/-- [te for x in range(lo, hi)] -/
theorem comp_range {K : PySem.W.Frag} {lo : Int} {n : Nat} {frs : List (Option Nat)} {te : Shared → Hp → List Addr → TE} {σ : St} {H1 : Hp} {Q : VK} (hn : n < sizeLine) (d : Nat → Dt) (hd : ∀ i, tupO (d i) = true)
    (he : ∀ s3 H3' fp i H', i < n → Same H1 H' → ∀ Ap : V → Hp → Prop, (∀ u H5, Same H' H5 → Has K H5 (d i) u → Ap u H5) → te s3 H3' fp (some (.int (lo + i)) :: compSt frs σ) H' Ap)
    (fin : ∀ p acc H', H1 p = none → Same H1 H' → H' p = some (.lst acc) → HasL K H' ((List.range n).map d) acc → Q (.ref p) H') :
    CompB (Itr lo n) (none :: frs) (fun _ _ _ => gName 0) (fun _ _ _ => tYes) te σ H1 Q := by
  refine comp_gen (K := K) (fun σ' => ∃ z, σ' = z :: compSt frs σ) n hn d (fun _ => true) hd ⟨none, rfl⟩ (fun i H' _ hi => hi) (fun H' _ => Nat.le_refl _) ?_ ?_
  · rintro s3 H3' fp i σ' H' hi ⟨z, rfl⟩ sm v H2 ⟨rfl, rfl⟩ Nx Ap _ hA
    refine gname_yes ?_
    exact he s3 H3' fp i _ hi sm _ fun u H5 s5 hu => hA rfl _ u H5 ⟨_, rfl⟩ s5 hu
  · intro p acc H' hp sm hacc hl
    rw [filter_tt] at hl
    exact fin p acc H' hp sm hacc hl
theorem hasL_intsOf {K : PySem.W.Frag} {H : Hp} {n : Nat} {f : Nat → Int} {acc : List V} (h : HasL K H ((List.range n).map fun i => Dt.int (f i)) acc) : acc = ((List.range n).map f).map V.int := by
  have e : ((List.range n).map fun i => Dt.int (f i)) = di ((List.range n).map f) := by unfold di; rw [List.map_map]; rfl
  rw [e] at h
  exact ints_hasL h
end L2
namespace L2
open PySem PySem.Spec PyProof.Rows
theorem for_sq {K : PySem.W.Frag} {b : Bool} {a : Addr} {xs : List V} {g : TG} {tb : TS} {D : Ends} {σ : St} {H : Hp} (Pv : Nat → St → Hp → Prop) (h0 : Pv 0 σ H) (hl : ∀ i σ H, i ≤ xs.length → Pv i σ H → SqG b K H a xs)
    (hs : ∀ i x σ H, xs[i]? = some x → Pv i σ H → g x σ H fun σ2 H2 => tb { D with nx := Pv (i + 1), ct := Pv (i + 1), bk := D.nx } σ2 H2) (hd : ∀ σ H, Pv xs.length σ H → D.nx σ H) :
    ∃ W : Nat → Nat → St → Hp → Prop, (∃ m, W 0 m σ H) ∧ ∀ i m σ H, W i m σ H →
      ((Its K b a).stop i H ∧ D.nx σ H) ∨ ((Its K b a).go i H ∧ ∃ N : St → Hp → Prop, (∀ σ' H', N σ' H' → ∃ m', m' < m ∧ W (i + 1) m' σ' H') ∧ ∀ x H', (Its K b a).yld i H x H' → g x σ H' fun σ2 H2 => tb { D with nx := N, ct := N, bk := D.nx } σ2 H2) := by
  cases b with
  | true => exact for_tup Pv h0 hl hs hd
  | false => exact for_list Pv h0 hl hs hd
end L2
namespace L2
open PySem PySem.Spec PyProof.Rows
/-- the object at p is another now -/
structure Put (H : Hp) (p : Addr) (o : HO) (H' : Hp) : Prop where
  at_ : H' p = some o
  else_ : ∀ b, b ≠ p → H' b = H b
theorem Put.up {H : Hp} {p : Addr} {o : HO} : Put H p o (upd H p o) := ⟨upd_same, fun b h => upd_ne h⟩
theorem Put.keep {H H' : Hp} {p b : Addr} {o u : HO} (h : Put H p o H') (e : H b = some u) (n : b ≠ p) : H' b = some u := by rw [h.else_ b n]; exact e
theorem Put.t {H H' : Hp} {p : Addr} {o o' : HO} (h : Put H p o H') (e : H p = some o') (ht : isT o' = false) : TSame H H' := fun b u q t => by
  refine h.keep q fun z => ?_
  subst z
  rw [e] at q
  cases q
  rw [ht] at t
  cases t
section
variable {X : Cx}
end
end L2

/-! OWN RULES 8: x = [..], and comprehensions by an invariant of one's own -/
namespace L2
open PySem PySem.Spec PyProof.Rows
section
variable {M : Model} {A : Around} {E : Value → Shared → Prop} {s : Shared} {env : Env}
theorem comprehension_use {e : Expr} {scope : Scope} {pos : Pos} {newAcc first : Sem Value} {g : Comprehension} {gs : List Comprehension} {u : Value → Sem Unit} {Q : Value → Shared → Prop}
    (hcl : clausesOf e = g :: gs) (hs : ∀ x, foldedSetIterable g.iter env x = pure x)
    (hc : ∀ x ∈ scope.names, x.2 ≠ .cell) (hfr : ∀ x ∈ scope.names, x.2 = .free → ∃ c, env.cells.lookup x.1 = some c) (hkind : scope.kind = .function) (hnames : ∀ x ∈ scope.names, x.2 = .local → scope.names.lookup x.1 = some .local)
    (h : wpAny M A first (fun x s₁ => wpAny M A (pyIter x) (fun it s₂ => wpAny M A newAcc (fun acc s₃ =>
      ∀ h4, h4.Ns s₃.heap.objs.size (fun _ => none) → (∀ b o, s₃.heap.get? b = some o → h4.get? b = some o) →
        codeAny M A (.compStart e 0 it acc (L2.compEnv env scope s₃.heap.objs.size)) (fun r s' => match r with
          | .ok _ => wpAny M A (u acc) (fun _ s'' => ∃ m, s''.heap.Ns s₃.heap.objs.size m ∧ ∀ h', Heap.SameBut s₃.heap.objs.size s''.heap h' → Q .none { s'' with heap := h' }) E s'
          | .error x => False) { s₃ with heap := h4 }) E s₂) E s₁) E s) :
    wpAny M A (comprehension e scope env pos newAcc false first (some u)) Q E s := by
  unfold comprehension
  rw [closure_eq hfr, hcl]
  refine wpAny_bind (wpAny_mono h (fun x s₁ h₁ => wpAny_bind (wpAny_standAt (wpAny_bind (wpAny_of_eq (hs x) (wpAny_bind (wpAny_holding (wpAny_mono h₁ (fun it s₂ h₂ =>
    wpAny_standIf (wpAny_bind (wpAny_mono h₂ (fun acc s₃ h₃ => wpAny_bind (wpAny_pure (wpAny_bind ?_))) fun _ _ h' => h'))) fun _ _ h' => h'))))))) fun _ _ h' => h')
  refine wpAny_newFunctionEnv hc (fun x hx => nomatch hx) (fun h4 hn4 hs4 => ?_) hkind
  have h₄ := h₃ h4 hn4 fun b o e => hs4.extBut b o (Nat.ne_of_lt (Heap.lt_size e)) (Heap.get?_push_of_some _ e)
  dsimp only
  have hv : ∀ x ∈ (scope.names.filter fun x => (x.2 == .local || x.2 == .cell) && x.1 != (".0" : Str)).reverse, x.2 = .local →
      Env.kindOf (L2.compEnv env scope s₃.heap.objs.size) x.1 = some .local := fun x hx hl => by
    show (relab env scope).names.lookup x.1 = some .local
    rw [relab_at, hnames x (List.mem_filter.mp (List.mem_reverse.mp hx)).1 hl]
    rfl
  have hv' : ∀ x ∈ (scope.names.filter fun x => (x.2 == .local || x.2 == .cell) && x.1 != (".0" : Str)).reverse.drop 1 ++ (scope.names.filter fun x => (x.2 == .local || x.2 == .cell) && x.1 != (".0" : Str)).reverse.take 1,
      x.2 = .local → Env.kindOf (L2.compEnv env scope s₃.heap.objs.size) x.1 = some .local := fun x hx hl =>
    (List.mem_append.mp hx).elim (fun z => hv x (List.mem_of_mem_drop z) hl) fun z => hv x (List.mem_of_mem_take z) hl
  refine wpAny_holding (wpAny_bind (wpAny_attempt (wpAny_holding (wpAny_run (codeAny_mono h₄ fun r s' hr => ?_)))))
  cases r with
  | ok f =>
    refine wpAny_bind (wpAny_rule (wpAny_bind (wpAny_holding (wpAny_mono hr (fun _ s'' hr' => ?_) fun _ _ h' => h'))))
    obtain ⟨m, hn, hr'⟩ := hr'
    exact wpAny_bind (wpAny_comp_letGo (cenv := L2.compEnv env scope s₃.heap.objs.size) hkind _ s'' m hv' hn fun h' m' _ hs' => wpAny_pure (hr' h' hs'))
  | error x => exact hr.elim
end
/-- name = [..] -/
theorem ps_setC {X : Cx} {N ps : List Str} {esc : Scope} (S : FnScope N ps esc) {i : Nat} {x : Str} {pos pos' : Pos} (N' : List Str) (fr : List (Option Nat)) (nd : N'.Nodup) {elt target iter : Expr} {ifs : List Expr} {sc : Scope} {pos2 : Pos} {wi : TI} {g : Shared → Hp → List Addr → TG} {tt : Shared → Hp → List Addr → TT} {te : Shared → Hp → List Addr → TE} (C : compOk N esc sc N' fr = true)
    (hi : X.N[i]? = some x) (hx : Loc X.env.scope x) (hit : PI X target iter wi) (hg : ∀ s3 H3 fp, PG (cxComp X N' sc s3 H3 fp) target (g s3 H3 fp)) (ht : ∀ s3 H3 fp, PTs (cxComp X N' sc s3 H3 fp) ifs (tt s3 H3 fp)) (he : ∀ s3 H3 fp, PE (cxComp X N' sc s3 H3 fp) elt (te s3 H3 fp))
    (hsw : swapsWith (.ListComp elt [⟨target, iter, ifs, 0⟩] sc pos2) (some (.Name x pos')) pos.line X.env = pure true) (hf : X.fn x = true := by rfl)
    (hc : X.calm = true := by rfl) (hN : X.N = N := by rfl) (hS : X.env.scope = esc := by rfl) (hs : ∀ x, foldedSetIterable iter X.env x = pure x := by intro _; rfl) : PS X (.Assign [.Name x pos'] (.ListComp elt [⟨target, iter, ifs, 0⟩] sc pos2) pos) (tAsg (tComp wi fr g tt te) (gName i)) := by
  have C : CompOk X.N X.env.scope sc N' fr := compOk_of (by rw [hN, hS]; exact C)
  have hNd : X.N.Nodup := by rw [hN]; exact S.nd
  intro pins s σ H D I h
  rw [exec_Assign_Name_used _ _ _ _ hsw]
  refine wpAny_bind (wpAny_standAt (wpAny_bind ?_))
  show wpAny _ X.A (do let _ ← comprehension (.ListComp elt [⟨target, iter, ifs, 0⟩] sc pos2) sc X.env _ (newList []) false (eval iter X.env) (some (assign (.Name x pos') X.env))) _ _ s
  have hfr : ∀ x ∈ sc.names, x.2 = .free → ∃ c, X.env.cells.lookup x.1 = some c := fun x hx e => I.ok.has x.1 (.inl (C.free x hx e))
  refine wpAny_bind (wpAny_mono (comprehension_use (g := ⟨target, iter, ifs, 0⟩) (gs := []) (Q := fun _ s' => SP X pins D .next s') rfl hs C.nocell hfr C.kind C.names ?_) (fun _ s' hq => wpAny_pure (wpAny_pure hq)) fun _ _ e => e)
  refine thn (hit pins s σ H _ I h) fun v s1 h1 => thn h1 fun itv s2 h2 => ?_
  obtain ⟨it, fp, tn, J, H2, e, I2, T, st2, f2, k2⟩ := h2
  subst e
  refine wpAny_newList ?_ (by show 0 ≤ sizeLine; decide)
  have hfree : H2 s2.heap.objs.size = none := I2.hok.fresh (Nat.le_refl _)
  obtain ⟨W, ⟨m0, w0⟩, turn⟩ := k2 _ hfree { s2 with heap := s2.heap.push { cls := .type "list", data := .seq ([] : List Value).toArray } } (upd H2 s2.heap.objs.size (.lst [])) fp
  have kp : ∀ b u, s2.heap.get? b = some u → (s2.heap.push { cls := .type "list", data := .seq ([] : List Value).toArray }).get? b = some u := fun b u e => Heap.get?_push_of_some _ e
  have I3 : Inv X pins σ (upd H2 s2.heap.objs.size (.lst [])) { s2 with heap := s2.heap.push { cls := .type "list", data := .seq ([] : List Value).toArray } } :=
    I2.laid (t' := s2.toks) kp (Nat.le_refl _) ⟨Nat.zero_le _, [], 0, .nil, Heap.get?_push_size _ rfl⟩
  have obj2 := T.obj 0 s2.heap st2
  have fpne : ∀ b ∈ fp, b ≠ s2.heap.objs.size := fun b hb => by
    obtain ⟨o, ho, _⟩ := obj2 b hb
    exact Nat.ne_of_lt (Heap.lt_size ho)
  have f3 : ∀ b ∈ fp, FpOk X pins (upd H2 s2.heap.objs.size (.lst [])) b := fun b hb => ⟨by rw [upd_ne (fpne b hb)]; exact (f2 b hb).1, (f2 b hb).2⟩
  have st3 := T.keep 0 s2.heap _ st2 fun b hb o e => kp b o e
  have obj3 := T.obj 0 _ st3
  intro h4 hn4 hk4
  have st4 := T.keep 0 _ h4 st3 fun b hb o e => hk4 b o e
  have I4 := comp_inv (N' := N') (fr := fr) (fp := fp) I3 C hc f3 (fun b hb => let ⟨o, ho, _⟩ := obj3 b hb; ⟨o, ho⟩) hn4 hk4
  have stat : ∀ {H' : Hp}, (∀ b ∈ fp, H' b = none) → ∀ b ∈ fp, FpOk (cxComp X N' sc { s2 with heap := s2.heap.push { cls := .type "list", data := .seq ([] : List Value).toArray } } (upd H2 s2.heap.objs.size (.lst [])) fp) [] H' b := fun hn b hb =>
    ⟨hn b hb, (I4.ok.exf b hb).1, I4.ok.exfs b hb, .inl hb, (I4.ok.exf b hb).2, fun p hp => (nomatch hp)⟩
  have loop : codeAny (model X.prog X.w) X.A (.compLoop (.ListComp elt [⟨target, iter, ifs, 0⟩] sc pos2) 0 (.ref it) (.ref s2.heap.objs.size) (L2.compEnv X.env sc (s2.heap.push { cls := .type "list", data := .seq ([] : List Value).toArray }).objs.size))
      (fun r s' => match r with
        | .ok _ => wpAny (model X.prog X.w) X.A (assign (.Name x pos') X.env (.ref s2.heap.objs.size)) (fun _ s'' => ∃ m, s''.heap.Ns (s2.heap.push { cls := .type "list", data := .seq ([] : List Value).toArray }).objs.size m ∧ ∀ h', Heap.SameBut (s2.heap.push { cls := .type "list", data := .seq ([] : List Value).toArray }).objs.size s''.heap h' → SP X pins D .next { s'' with heap := h' }) X.xe s'
        | .error x => False) { s2 with heap := h4 } := by
    refine compLoop_ok (fun n s' => ∃ i σ' H', Inv (cxComp X N' sc { s2 with heap := s2.heap.push { cls := .type "list", data := .seq ([] : List Value).toArray } } (upd H2 s2.heap.objs.size (.lst [])) fp) [] σ' H' s' ∧ tn i s'.heap ∧ (∀ b ∈ fp, H' b = none) ∧ W i n σ' H') ?_ m0
      ⟨0, _, _, I4, st4, fun b hb => (f3 b hb).1, w0⟩
    rintro n s5 ⟨j, σ5, H5, I5, st5, fr5, w5⟩
    rcases turn j n σ5 H5 w5 with ⟨stop, q⟩ | ⟨go, step⟩
    · refine thn (T.done (cxComp X N' sc _ _ fp) rfl rfl rfl rfl j [] s5 σ5 H5 (fun _ _ => False) I5 (stat fr5) st5 stop) fun r s6 ⟨hr, I6⟩ => ?_
      subst hr
      obtain ⟨m6, hn6, _⟩ := id I6.loc
      have hL : H5 (s2.heap.push { cls := .type "list", data := .seq ([] : List Value).toArray }).objs.size = none := I6.free
      have I7 : Inv X pins σ H5 s6 := I3.call' (s' := s6) (ch := fp) I6.os I6.base I6.hok I6.bare (fun b hb => by
        obtain ⟨_, g1, g2, g3, g4, g5⟩ := f3 b hb
        exact ⟨g3, g1, g4, g5⟩)
      have Lne : (s2.heap.push { cls := .type "list", data := .seq ([] : List Value).toArray }).objs.size ≠ X.env.locals := Nat.ne_of_gt I3.lt
      have cne : ∀ y c, X.env.cells.lookup y = some c → c ≠ (s2.heap.push { cls := .type "list", data := .seq ([] : List Value).toArray }).objs.size := fun y c e => by
        obtain ⟨v', z⟩ := I3.cell y c e
        exact Nat.ne_of_lt z.lt
      refine wpAny_assign_Name (store_ok2 (v := .ref s2.heap.objs.size) I7 hNd hi hx rfl (fun s8 I8 ⟨a8, sb8, ha8⟩ => ?_) (.inl hf))
      refine ⟨m6, hn6.sameBut sb8 (fun z => ha8.elim (fun w' => Lne (z.trans w')) fun w' => cne _ _ w' z.symm), fun h' hs' => ⟨_, H5, ?_, q⟩⟩
      refine I8.turned (it := (s2.heap.push { cls := .type "list", data := .seq ([] : List Value).toArray }).objs.size) (t' := s8.toks) (fun b o hb e => (hs'.2 b hb).trans e) hL Lne (.inr I3.sz) cne fun p hp z => ?_
      have lt := Heap.lt_size (I3.pin p hp).1
      rw [z] at lt
      exact Nat.lt_irrefl _ lt
    · refine thn (T.item (cxComp X N' sc _ _ fp) rfl rfl rfl rfl j [] s5 σ5 H5 (fun _ _ => False) I5 (stat fr5) st5 go) fun r s6 ⟨u, hr, h6⟩ => ?_
      subst hr
      refine thn h6 fun _ s7 ⟨y, H7, I7, r7, y7, st7, fr7⟩ => ?_
      have I7' := I7.pinned (stat fr7) (T.obj _ _ st7)
      have again : ∀ {σ8 : St} {H8 : Hp} {s8 : Shared}, Inv (cxComp X N' sc { s2 with heap := s2.heap.push { cls := .type "list", data := .seq ([] : List Value).toArray } } (upd H2 s2.heap.objs.size (.lst [])) fp) ([] ++ pinsAt fp s7.heap) σ8 H8 s8 → (∃ m', m' < n ∧ W (j + 1) m' σ8 H8) →
          ∃ m, m < n ∧ ∃ i σ' H', Inv (cxComp X N' sc { s2 with heap := s2.heap.push { cls := .type "list", data := .seq ([] : List Value).toArray } } (upd H2 s2.heap.objs.size (.lst [])) fp) [] σ' H' s8 ∧ tn i s8.heap ∧ (∀ b ∈ fp, H' b = none) ∧ W i m σ' H' := fun {σ8 H8 s8} I8 ⟨m', hm, w8⟩ => by
        refine ⟨m', hm, j + 1, σ8, H8, I8.unpinned, T.keep _ _ _ st7 fun b hb o e => (I8.pin (b, o) (List.mem_append_right _ (List.mem_append_right _ (mem_pinsAt hb e)))).1, fun b hb => ?_, w8⟩
        obtain ⟨o, e, d⟩ := T.obj _ _ st7 b hb
        exact (I8.pin (b, o) (List.mem_append_right _ (List.mem_append_right _ (mem_pinsAt hb e)))).2.1
      refine thn (hg _ _ fp _ s7 σ5 H7 y u _ I7' r7 (step y H7 y7)) fun _ s8 ⟨σ8, H8, I8, q8⟩ => ?_
      refine thn (ht _ _ fp _ s8 σ8 H8 _ I8 q8) fun ok s9 ⟨H9, I9, q9⟩ => ?_
      cases ok with
      | false => exact again I9 q9
      | true =>
        refine thn (he _ _ fp _ s9 σ8 H9 _ I9 q9) fun y s10 ⟨v, H10, I10, r10, ys, hys, hl, q10⟩ => ?_
        refine thn (mt_append _ s10 σ8 H10 (.ref s2.heap.objs.size) [v] (.ref s2.heap.objs.size) [y] (fun _ H' => ∃ m', m' < n ∧ W (j + 1) m' σ8 H') I10 rfl (.cons r10 .nil) ⟨_, ys, v, rfl, rfl, hys, hl, q10⟩) fun z s11 ⟨_, H11, I11, _, q11⟩ => ?_
        exact again I11 q11
  refine codeAny_compStart_list loop ?_
  exact T.self X.A 0 _ _ _ st4 loop
/-- a comprehension by an invariant of one's own: J p i acc H at turn i, acc the list at p so far -/
theorem comp_any {J : It} {fr : List (Option Nat)} {g : Shared → Hp → List Addr → TG} {tt : Shared → Hp → List Addr → TT} {te : Shared → Hp → List Addr → TE} {σ : St} {H1 : Hp} {Q : VK} (Ok : St → Prop) (n : Nat) (hn : n < sizeLine) (h0 : Ok (compSt fr σ)) (I : Addr → Nat → List V → Hp → Prop)
    (hI0 : ∀ p H', H1 p = none → Same H1 H' → H' p = some (.lst []) → I p 0 [] H') (hgo : ∀ p i acc H', I p i acc H' → i < n → J.go i H') (hst : ∀ p acc H', I p n acc H' → J.stop n H')
    (turn : ∀ s3 H3' fp p i acc σ' H', H1 p = none → i < n → Ok σ' → acc.length ≤ i → H' p = some (.lst acc) → I p i acc H' → ∀ x H2, J.yld i H' x H2 → ∀ (Nx : St → Hp → Prop) (Ap : St → V → Hp → Prop),
      (∀ σ2 H4, Ok σ2 → H4 p = some (.lst acc) → I p (i + 1) acc H4 → Nx σ2 H4) → (∀ σ2 v H5, Ok σ2 → H5 p = some (.lst acc) → (∀ H6, Put H5 p (.lst (acc ++ [v])) H6 → I p (i + 1) (acc ++ [v]) H6) → Ap σ2 v H5) →
      g s3 H3' fp x σ' H2 fun σ2 H3 => tt s3 H3' fp σ2 H3 fun b H4 => if b = true then te s3 H3' fp σ2 H4 (fun v H5 => Ap σ2 v H5) else Nx σ2 H4)
    (fin : ∀ p acc H', H1 p = none → acc.length ≤ n → H' p = some (.lst acc) → I p n acc H' → Q (.ref p) H') : CompB J fr g tt te σ H1 Q := by
  intro p hp s3 H3' fp
  refine ⟨fun i m σ' H' => m = n - i ∧ i ≤ n ∧ Ok σ' ∧ ∃ acc, acc.length ≤ i ∧ H' p = some (.lst acc) ∧ I p i acc H', ⟨n, by simp, Nat.zero_le _, h0, [], Nat.le_refl _, upd_same, hI0 p _ hp (same_new hp _) upd_same⟩, ?_⟩
  rintro i m σ' H' ⟨rfl, hi, ok, acc, hla, hacc, hI⟩
  by_cases hlt : i < n
  · refine .inr ⟨hgo p i acc H' hI hlt, fun x H2 hy => ?_⟩
    refine turn s3 H3' fp p i acc σ' H' hp hlt ok hla hacc hI x H2 hy (fun σ2 H4 => ∃ m', m' < n - i ∧ m' = n - (i + 1) ∧ i + 1 ≤ n ∧ Ok σ2 ∧ ∃ acc, acc.length ≤ i + 1 ∧ H4 p = some (.lst acc) ∧ I p (i + 1) acc H4) (fun σ2 v H5 => _) (fun σ2 H4 ok2 e4 i4 => ⟨n - (i + 1), by omega, rfl, hlt, ok2, acc, by omega, e4, i4⟩) (fun σ2 v H5 ok2 e5 i5 => ?_)
    refine ⟨acc, e5, by omega, n - (i + 1), by omega, rfl, hlt, ok2, acc ++ [v], ?_, upd_same, i5 _ Put.up⟩
    rw [List.length_append]
    show acc.length + 1 ≤ i + 1
    omega
  · have e : i = n := by omega
    subst e
    exact .inl ⟨hst p acc H' hI, fin p acc H' hp hla hacc hI⟩
section
variable {X : Cx}
theorem MtM.imp {id : String} {r r' : V → List V → Hp → VK → Prop} (h : MtM X id r) (k : ∀ x xs H Q, r' x xs H Q → r x xs H Q) : MtM X id r' := fun pins s σ H x xs v us Q I r1 r2 q => h pins s σ H x xs v us Q I r1 r2 (k _ _ _ _ q)
theorem mt_appendA : MtM X "list.append" (fun x vs H Q => ∃ l xs y, x = .ref l ∧ vs = [y] ∧ H l = some (.lst xs) ∧ xs.length < sizeLine ∧ ∀ H', Put H l (.lst (xs ++ [y])) H' → Q .non H') := mt_append.imp fun x vs H Q ⟨l, xs, y, e1, e2, h1, hz, q⟩ => ⟨l, xs, y, e1, e2, h1, hz, q _ Put.up⟩
end
end L2

namespace L2
open PySem PySem.Spec PyProof.Rows
section
variable {X : Cx} {a e k : Expr} {ta te tk : TE} {pos p2 : Pos}
end
theorem HasL.reverse {K : PySem.W.Frag} {H : Hp} : ∀ {ds : List Dt} {xs : List V}, HasL K H ds xs → HasL K H ds.reverse xs.reverse
  | [], xs, h => by rw [HasL] at h; subst h; exact hasL_nil
  | d :: r, xs, h => by
    rw [HasL] at h
    obtain ⟨x, t, rfl, h1, h2⟩ := h
    rw [List.reverse_cons, List.reverse_cons]
    exact HasL.append (HasL.reverse h2) (hasL_cons h1 hasL_nil)
theorem HasL.take {K : PySem.W.Frag} {H : Hp} : ∀ {ds : List Dt} {xs : List V} {n : Nat}, HasL K H ds xs → HasL K H (ds.take n) (xs.take n)
  | ds, xs, 0, h => by rw [List.take_zero, List.take_zero]; exact hasL_nil
  | [], xs, n + 1, h => by rw [HasL] at h; subst h; exact hasL_nil
  | d :: r, xs, n + 1, h => by
    rw [HasL] at h
    obtain ⟨x, t, rfl, h1, h2⟩ := h
    rw [List.take_succ_cons, List.take_succ_cons]
    exact hasL_cons h1 (HasL.take h2)
theorem HasL.drop {K : PySem.W.Frag} {H : Hp} : ∀ {ds : List Dt} {xs : List V} {n : Nat}, HasL K H ds xs → HasL K H (ds.drop n) (xs.drop n)
  | ds, xs, 0, h => h
  | [], xs, n + 1, h => by rw [HasL] at h; subst h; exact hasL_nil
  | d :: r, xs, n + 1, h => by
    rw [HasL] at h
    obtain ⟨x, t, rfl, h1, h2⟩ := h
    rw [List.drop_succ_cons, List.drop_succ_cons]
    exact HasL.drop h2
end L2

/-! OWN RULES: enumerate of a list or a tuple as a loop's iterable -/
namespace ZG
open PySem
theorem drawsG {prog : Program} {w : World} {A : Around} (hh : A.handled = none) (b : Bool) (it l : Addr) (hne : l ≠ it) (items : Array Value) :
    Draws prog w A it [it, l] items.size (fun i v => items[i]? = some v) (fun i h => Dr b h it l i ∧ Sq b h l items) where
  live := fun _ _ st => let ⟨o, ho, _⟩ := st.1.some; ⟨o, ho⟩
  frame := fun _ _ _ st hk => ⟨st.1.at fun o e => hk it (by simp) o e, st.2.at fun o e => hk l (by simp) o e⟩
  item := fun i s Q E hi st hQ => by
    refine drNext st.1 st.2 (v := items[i]) (by simp [hi]) fun h' hit' hs' => ?_
    exact hQ _ h' s.toks (by simp [hi]) ⟨hit', st.2.ext hs'.extBut hne⟩ hs'
  done := fun s Q E st hE => drEnd hh st.1 st.2 (by simp) hE
set_option maxHeartbeats 1000000 in
theorem new_enumT (l : Addr) (items : Array Value) (n : Nat) (dct : Option Addr) (sl : Array (Option Value)) :
    Meets (Builtin.«enumerate.__new__» ⟨[.type "enumerate", .ref l], []⟩) (fun _ R s => s.heap.get? l = some { cls := .type "tuple", dict := dct, data := .seq items n, slots := sl } ∧
      R (.ok (.ret (.ref (s.heap.push { cls := .type "tuple_iterator", data := .fields #[.ref l, .int 0 0] }).objs.size)))
        { s with heap := (s.heap.push { cls := .type "tuple_iterator", data := .fields #[.ref l, .int 0 0] }).push { cls := .type "enumerate", data := .fields #[.none, .bool false, .ref s.heap.objs.size, rawInt 0, .none, .none] } }) :=
  .of_wp fun prog w A R s h => by
    obtain ⟨hp, g, d, tk, os⟩ := s; obtain ⟨hl, h⟩ := h
    have hsub := sub_enumerate
    have hL : Heap.IsTuple (Shared.heap ⟨hp, g, d, tk, os⟩) l items := ⟨_, hl, rfl, n, rfl⟩
    wp_walk using AutoSeq1.wpAny_loadPart' hl
    refine wpAny_stack_any fun st => wpAny_pure ?_
    split
    · rename_i c _ _ _ _ _
      cases (c == Value.type "enumerate")
      · wp_walk using AutoSeq1.wpAny_loadPart' hl, wpAny_pyIter_tuple hL
        exact ⟨_, rfl, h⟩
      · wp_walk using AutoSeq1.wpAny_loadPart' hl, wpAny_pyIter_tuple hL
        exact ⟨_, rfl, h⟩
    · wp_walk using AutoSeq1.wpAny_loadPart' hl, wpAny_pyIter_tuple hL
      exact ⟨_, rfl, h⟩
section
variable {prog : Program} {w : World} {A : Around} {E : Value → Shared → Prop} {s : Shared}
theorem call_enumT {l : Addr} {items : Array Value} {Q : Value → Shared → Prop} (hL : s.heap.IsTuple l items)
    (h : ∀ h', IsEnum h' (s.heap.objs.size + 1) s.heap.objs.size 0 .none → h'.IsTupleIter s.heap.objs.size l 0 → h'.objs.size = s.heap.objs.size + 2 →
      (∀ b o, s.heap.get? b = some o → h'.get? b = some o) → Q (.ref (s.heap.objs.size + 1)) { s with heap := h' }) :
    wpAny (model prog w) A (call (.type "enumerate") [.ref l]) Q E s := by
  obtain ⟨⟨c, dct, dt, sl⟩, hl, hc, n, hd⟩ := hL
  replace hc : c = .type "tuple" := hc
  replace hd : dt = .seq items n := hd
  subst hc hd
  refine callType_new F.called_enumerate (by decide) (F.typeCall_enumerate_1 _) (F.newCall_enumerate_1 _) (fun obj => F.args_object_init_2 obj _) F.entry_enumerate_new
    (new_enumT l items n dct sl) ⟨hl, ?_⟩
  have hz : (s.heap.push { cls := .type "tuple_iterator", data := .fields #[.ref l, .int 0 0] }).objs.size = s.heap.objs.size + 1 := Heap.size_push ..
  show _ ∧ _
  rw [hz]
  have he : IsEnum ((s.heap.push { cls := .type "tuple_iterator", data := .fields #[.ref l, .int 0 0] }).push
      { cls := .type "enumerate", data := .fields #[.none, .bool false, .ref s.heap.objs.size, rawInt 0, .none, .none] }) (s.heap.objs.size + 1) s.heap.objs.size 0 .none := by
    have := Heap.get?_push_size (s.heap.push { cls := .type "tuple_iterator", data := .fields #[.ref l, .int 0 0] })
      (o := { cls := .type "enumerate", data := .fields #[.none, .bool false, .ref s.heap.objs.size, rawInt 0, .none, .none] }) rfl
    rw [hz] at this; exact this
  refine ⟨⟨_, he, rfl⟩, h _ he ⟨_, Heap.get?_push_of_some _ (Heap.get?_push_size _ rfl), rfl, rfl⟩ (by rw [Heap.size_push, hz]) fun b o x => Heap.get?_push_of_some _ (Heap.get?_push_of_some _ x)⟩
theorem call_enumG {b : Bool} {l : Addr} {items : Array Value} {Q : Value → Shared → Prop} (hL : Sq b s.heap l items)
    (h : ∀ h', IsEnum h' (s.heap.objs.size + 1) s.heap.objs.size 0 .none → Dr b h' s.heap.objs.size l 0 → h'.objs.size = s.heap.objs.size + 2 →
      (∀ b o, s.heap.get? b = some o → h'.get? b = some o) → Q (.ref (s.heap.objs.size + 1)) { s with heap := h' }) :
    wpAny (model prog w) A (call (.type "enumerate") [.ref l]) Q E s := by
  cases b with
  | true => exact call_enumT hL h
  | false => exact call_enumerate_list hL h
end
end ZG
namespace L2
open PySem PySem.Spec PyProof.Rows
/-- a sequence's items with their places: each turn yields a new tuple -/
def Ite (K : PySem.W.Frag) (b : Bool) (a : Addr) : It :=
  ⟨fun i H => ∃ xs x, SqG b K H a xs ∧ xs[i]? = some x,
   fun i H v H' => ∃ p x, H p = none ∧ v = .ref p ∧ H' = upd H p (.tup [.int i, x]) ∧ ∀ xs, SqG b K H a xs → xs[i]? = some x,
   fun i H => ∃ xs, SqG b K H a xs ∧ xs.length = i⟩
theorem turn_enum {P : Program} {w : World} {K : PySem.W.Frag} {es : List Expr} {x1 : Nat} {tp : Pos} (b : Bool) (a e it : Addr) (D : e ≠ it) :
    Turn P w K (.Tuple es x1 tp) (Ite K b a) [e, it] e (fun i h => (∃ old, IsEnum h e it i old) ∧ ZG.Dr b h it a i) where
  mem := by simp
  obj := fun i h st c hb => by
    obtain ⟨⟨old, he⟩, d⟩ := st
    have hb : c = e ∨ c = it := by simpa using hb
    rcases hb with rfl | rfl
    · exact ⟨_, he, fun v z => by cases (show Data.fields _ = Data.cell v from z)⟩
    · exact d.some
  keep := fun i h h' st k => by
    obtain ⟨⟨old, he⟩, d⟩ := st
    exact ⟨⟨old, k e (by simp) _ he⟩, d.at fun o z => k it (by simp) o z⟩
  item := by
    intro X hP hw hK hc i pins s σ H E I hf st hg
    subst hP hw hK
    obtain ⟨xs, x, q1, hx⟩ := hg
    obtain ⟨its, rv, p1, z1⟩ := I.sq q1
    obtain ⟨u, hu, ru⟩ := rv.get hx
    obtain ⟨⟨old, he⟩, d⟩ := st
    have fe := hf e (by simp)
    have fi := hf it (by simp)
    have nai := I.sq_ne q1 fi
    have nae := I.sq_ne q1 fe
    have hlt : i < its.toArray.size := by
      have := (List.getElem?_eq_some_iff.mp hu).1
      simpa using this
    refine wpAny_pyNext_enum_itemD (ZG.drawsG (A := X.A.in1) (I.ok.hd hc) b it a nai its.toArray) he ⟨d, p1⟩ hlt D (by simp [D, nae.symm]) fun y h1 tk hP hO hst hT hsz hk => ⟨_, rfl, ?_⟩
    have ey : y = u := by
      have e1 : its.toArray[i]? = some u := by simpa using hu
      rw [e1] at hP
      exact (Option.some.inj hP).symm
    subst ey
    refine wpAny_letOwnedTupleGo_enum (s := { s with heap := h1, toks := tk + 1 }) hO fun h' he' hs' => ?_
    have hfresh : H s.heap.objs.size = none := I.hok.fresh (Nat.le_refl _)
    have eT : s.heap.objs.size ≠ e := Nat.ne_of_gt (Heap.lt_size he)
    have kp : ∀ c o, c ∉ [e, it] → s.heap.get? c = some o → h'.get? c = some o := fun c o hb z => by
      have n : c ≠ e ∧ c ≠ it := by simpa using hb
      exact hs'.extBut _ _ n.1 (hk c o n.1 n.2 z)
    have hT' : h'.get? s.heap.objs.size = some { cls := .type "tuple", data := .seq #[.int i tk, y] } := hs'.extBut _ _ eT hT
    have notfp : ∀ c o, H c = some o → c ∉ [e, it] := fun c o z hb => by
      have := (hf c hb).1
      rw [z] at this; cases this
    have ne : ∀ c o, s.heap.get? c = some o → c ≠ s.heap.objs.size := fun c o z => Nat.ne_of_lt (Heap.lt_size z)
    have nt : ∀ c o, H c = some o → c ≠ s.heap.objs.size := fun c o z => ne_of_none z hfresh
    have I1 : Inv X pins σ (upd H s.heap.objs.size (.tup [.int i, x])) { s with heap := h', toks := tk + 1 } := by
      refine I.step (g' := s.gens) (d' := s.drawn) (t' := tk + 1) (ch := [e, it]) (fun c hb => ?_) (fun c o _ _ hc z _ => kp c o hc z) (fun c o _ _ hc z _ => ⟨o.slots, kp c o hc z⟩)
        (fun c o _ z n => by rw [upd_ne (ne c o z)]; exact n) (fun c o hc z => ⟨o, kp c o hc z⟩) (fun c zs z => by rw [upd_ne (nt c _ z)]; exact z) (fun c o u z => by rw [upd_ne (nt c _ z)]; exact z)
        (fun c ps z => ⟨#[], by rw [upd_ne (nt c _ z), z]; simp⟩) (fun m hm => ?_) (fun c o z => ?_) I.bare
      · obtain ⟨g0, g1, g2, g3, g4, g5⟩ := hf c hb
        exact ⟨g3, g1, g4, g5⟩
      · obtain ⟨o, es, ep, ho', r⟩ := hm
        exact ⟨o, es, ep, kp _ o (fun hb => (hf _ hb).2.1 rfl) ho', r⟩
      · by_cases hb : c = s.heap.objs.size
        · subst hb
          rw [upd_same] at z
          cases z
          exact ⟨by show 2 ≤ sizeLine; decide, [.int i tk, y], .cons ⟨tk, rfl⟩ (.cons ru .nil), _, hT', rfl, _, rfl⟩
        · rw [upd_ne hb] at z
          refine (I.hok c o z).stay (fun c' w' hc' q => kp c' w' ?_ q) (fun c' q => by rw [upd_ne (nt c' _ q)]; exact q) fun c' zs q => by rw [upd_ne (nt c' _ q)]; exact q
          rcases hc' with rfl | hc'
          · exact notfp _ _ z
          · exact notfp _ _ hc'
    refine ⟨.ref s.heap.objs.size, _, I1, rfl, ⟨s.heap.objs.size, x, hfresh, rfl, rfl, fun zs hq => by rw [I.sq_inj hq q1]; exact hx⟩, ?_, fun c hb => ?_⟩
    · exact ⟨⟨_, he'⟩, hst.1.ext hs'.extBut D.symm⟩
    · have hb0 := (hf c hb).1
      have hb' : c = e ∨ c = it := by simpa using hb
      have hlt : ∃ o, s.heap.get? c = some o := by
        rcases hb' with rfl | rfl
        · exact ⟨_, he⟩
        · obtain ⟨o, z, _⟩ := d.some; exact ⟨o, z⟩
      obtain ⟨o, z⟩ := hlt
      rw [upd_ne (ne c o z)]
      exact hb0
  done := by
    intro X hP hw hK hc i pins s σ H E I hf st hg
    subst hP hw hK
    obtain ⟨xs, q1, hn⟩ := hg
    obtain ⟨its, rv, p1, z1⟩ := I.sq q1
    obtain ⟨⟨old, he⟩, d⟩ := st
    have fe := hf e (by simp)
    have fi := hf it (by simp)
    have nai := I.sq_ne q1 fi
    have l1 := rv.length
    have en : its.toArray.size = i := by simp; omega
    refine wpAny_pyNext_enum_endD (ZG.drawsG (A := X.A.in1) (I.ok.hd hc) b it a nai its.toArray) he (by rw [en]; exact ⟨d, p1⟩) fun g gk => ⟨rfl, ?_⟩
    have kp : ∀ c o, c ∉ [e, it] → s.heap.get? c = some o → g.get? c = some o := fun c o hb z => by
      have n : c ≠ e ∧ c ≠ it := by simpa using hb
      exact gk c o n.2 z
    have notfp : ∀ c o, H c = some o → c ∉ [e, it] := fun c o z hb => by
      have := (hf c hb).1
      rw [z] at this; cases this
    refine I.step (g' := s.gens) (d' := s.drawn) (t' := s.toks) (ch := [e, it]) (fun c hb => ?_) (fun c o _ _ hc z _ => kp c o hc z) (fun c o _ _ hc z _ => ⟨o.slots, kp c o hc z⟩)
      (fun c o _ z n => n) (fun c o hc z => ⟨o, kp c o hc z⟩) (fun c zs z => z) (fun c o u z => z) (fun c ps z => ⟨#[], by rw [z]; simp⟩) (fun m hm => ?_) (fun c o z => ?_) I.bare
    · obtain ⟨g0, g1, g2, g3, g4, g5⟩ := hf c hb
      exact ⟨g3, g1, g4, g5⟩
    · obtain ⟨o, es, ep, ho', r⟩ := hm
      exact ⟨o, es, ep, kp _ o (fun hb => (hf _ hb).2.1 rfl) ho', r⟩
    · refine (I.hok c o z).stay (fun c' w' hc' q => kp c' w' ?_ q) (fun c' q => q) fun c' zs q => q
      rcases hc' with rfl | hc'
      · exact notfp _ _ z
      · exact notfp _ _ hc'
  self := fun _ _ _ _ _ st h => by
    obtain ⟨⟨old, he⟩, _⟩ := st
    exact wpAny_pyIter_enum he h
def iEnum (K : PySem.W.Frag) (ta : TA) : TI := fun σ H R => ta σ H fun vs H1 => ∃ b a, vs = [.ref a] ∧ (∃ xs, SqG b K H1 a xs) ∧ R (Ite K b a) H1
theorem pi_enum {X : Cx} {es : List Expr} {x1 : Nat} {tp : Pos} {a : Expr} {ta : TA} {p pos : Pos} (hg : Gl X "enumerate") (hm : X.mg "enumerate" = none) (ha : PA X [a] ta) (hs : starEach [a] X.env = [(false, eval a X.env)] := by rfl) :
    PI X (.Tuple es x1 tp) (.Call (.Name "enumerate" p) [a] [] pos) (iEnum X.K ta) := by
  intro pins s σ H R I h
  refine Call_ (ld_blt I hg hm boot_enumerate (PyProof.Rows.callWith_type1 (thn (ha pos pins s σ H _ I h) fun us s1 ⟨vs, H1, I1, r1, q1⟩ => ?_) hs rfl))
  obtain ⟨b, a, e, ⟨xs, q1⟩, q⟩ := q1
  subst e
  cases r1 with
  | cons r rr =>
    cases rr
    cases r
    obtain ⟨its, rv, p1, z1⟩ := I1.sq q1
    refine ZG.call_enumG p1 fun g gz g1 gs gk => wpAny_pyIter_enum (s := { s1 with heap := g }) gz ?_
    have I2 : Inv X pins σ H1 { s1 with heap := g } := I1.kept (t' := s1.toks) gk
    refine ⟨_, _, _, _, H1, rfl, I2, turn_enum b a _ s1.heap.objs.size (show (_ : Nat) ≠ _ by omega), ⟨⟨_, gz⟩, g1⟩, fun c hb => ?_, q⟩
    have hb' : s1.heap.objs.size ≤ c := by
      have z : c = s1.heap.objs.size + 1 ∨ c = s1.heap.objs.size := by simpa using hb
      rcases z with z | z <;> rw [z] <;> (show (_ : Nat) ≤ _) <;> omega
    exact I1.fpOk hb' (I1.hok.fresh hb')
end L2

/-! OWN RULES: t + u of any two tuples; a tuple times an int of 2 and more -/
namespace ZG
open PySem
open Sem (wp)
open Builtin
end ZG
namespace L2
open PySem PySem.Spec PyProof.Rows
section
variable {X : Cx}
end
end L2

/-! OWN RULES: dicts whose keys are tuples: dict([..]), and walked -/
namespace ZG
open PySem
open Sem (wp)
section
variable {prog : Program} {w : World} {A : Around} {E : Value → Shared → Prop} {s : Shared}
/-- for k in d: the dict's own object is known -/
theorem dIter {d : Addr} {o : Obj} {es : Array DictEntry} {ep : Nat} {Q : Value → Shared → Prop} (hd : (d == sysModules) = false) (ho : s.heap.get? d = some o) (hc : o.ExactDict) (hdat : o.data = .dict es ep)
    (hQ : Q (.ref s.heap.objs.size) { s with heap := s.heap.push { cls := .type "dict_keyiterator", data := .fields #[.ref d, .int 0 0, .int es.size 0, .int ep 0] } }) : wpAny (model prog w) A (pyIter (.ref d)) Q E s := by
  have hT : s.TypeIs (.ref d) "dict" := ⟨o, ho, hc.1⟩
  refine wpAny_pyIter_slot hT F.slot_dict_iter (wpAny_call_entry F.slot_dict_iter hT F.entry_dict_iter ?_ (F.args_dict_iter_1 _))
  unfold Builtin.«dict.__iter__» Builtin.Dict.dictSlotNone
  refine wpAny_bind (wpAny_bind (wpAny_notOrdered_dict hT (show wpAny _ _ (pure (Value.ref d)) _ _ s from wpAny_pure (show wpAny _ _ (Builtin.Dict.showsAll d >>= _) _ _ s from ?_))))
  unfold Builtin.Dict.showsAll
  rw [if_neg (by rw [hd]; exact Bool.false_ne_true)]
  exact wpAny_bind (wpAny_pure (wpAny_bind (wpAny_dictEntries ho hdat (wpAny_bind (wpAny_dictEpoch ho hdat (wpAny_bind (wpAny_newObj_type (wpAny_pure ⟨_, rfl, "dict_keyiterator", _, ⟨_, Heap.get?_push_size _ rfl, rfl⟩, F.slot_dict_keyiterator_next.lookup, by simpa [rawInt] using hQ⟩))))))))
theorem dNext {it d : Addr} {i ep : Nat} {o : Obj} {es : Array DictEntry} {e : DictEntry} {Q : Option Value → Shared → Prop} (hit : s.heap.IsKeyIter it d i es.size ep) (hod : s.heap.get? d = some o) (hdd : o.data = .dict es ep) (hx : es[i]? = some e)
    (hQ : ∀ h', h'.IsKeyIter it d (i + 1) es.size ep → Heap.SameBut it s.heap h' → Q (some e.key) { s with heap := h' }) : wpAny (model prog w) A (pyNext (.ref it)) Q E s := by
  obtain ⟨oi, ho, hc, hd⟩ := id hit
  unfold pyNext
  refine wpAny_bind (wpAny_attempt (wpAny_callSpecial?_slot (name := Str.ofString "__next__") hit.typeIs F.slot_dict_keyiterator_next (wpAny_call_entry F.slot_dict_keyiterator_next hit.typeIs F.entry_dict_keyiterator_next ?_ (F.args_dict_keyiterator_next_1 _))))
  refine wpAny_bind (wpAny_pure (wpAny_bind (wpAny_bind ?_)))
  refine wpAny_bind (wpAny_typeNameOfWhole_keyiter hit.typeIs (wpAny_pure (wpAny_bind (wpAny_fieldsOf ho hd ?_))))
  simp only [show Builtin.Dict_items.ownsTuple "dict_keyiterator" = false by decide, Bool.false_eq_true, if_false]
  show wpAny _ _ (if (Value.ref d == Value.none) = true then _ else _) _ _ s
  rw [if_neg (show ¬ (Value.ref d == Value.none) = true from fun z => Bool.false_ne_true z)]
  refine wpAny_bind (wpAny_pure (wpAny_bind (wpAny_dictEntries hod hdd ?_)))
  rw [if_neg (show ¬ _ by simp)]
  refine wpAny_bind (wpAny_pure (wpAny_bind (wpAny_dictEpoch hod hdd ?_)))
  rw [if_neg (show ¬ _ by simp)]
  refine wpAny_pure ?_
  simp only [show ¬ (i : Int) < 0 by omega, if_false, Int.toNat_natCast, hx]
  refine wpAny_bind (wpAny_bind (wpAny_typeNameOfWhole_keyiter hit.typeIs (wpAny_pure (wpAny_bind (wpAny_isOneOf_keyiter hit.typeIs ?_)))))
  show wpAny _ _ (setField (.ref it) 1 (rawInt ((i : Int) + 1)) >>= _) _ _ s
  refine wpAny_bind (wpAny_setField ho hd (by simp) ?_)
  have hit' : (s.heap.update it (Obj.mapFields (·.setIfInBounds 1 (rawInt ((i : Int) + 1))))).IsKeyIter it d (i + 1) es.size ep :=
    ⟨_, Heap.get?_update_self _ ho (Obj.isFreed_of_fields (Obj.data_mapFields hd _)), (Obj.cls_mapFields ..).trans hc, by rw [Obj.data_mapFields hd]; simp [rawInt]⟩
  exact wpAny_bind (wpAny_holding (wpAny_bind (wpAny_isOneOf_keyiter (s := { s with heap := s.heap.update it (Obj.mapFields (·.setIfInBounds 1 (rawInt ((i : Int) + 1)))) }) hit'.typeIs (show wpAny _ _ (pure e.key) _ _ _ from wpAny_pure (wpAny_pure ⟨_, rfl, wpAny_pure (hQ _ hit' (Heap.SameBut.update ..))⟩)))))
theorem dEnd {it d : Addr} {i ep : Nat} {o : Obj} {es : Array DictEntry} {Q : Option Value → Shared → Prop} (hh : A.handled = none) (hit : s.heap.IsKeyIter it d i es.size ep) (hod : s.heap.get? d = some o) (hdd : o.data = .dict es ep) (hx : es[i]? = none)
    (hQ : ∀ h', Heap.ExtBut it s.heap h' → Q none { s with heap := h' }) : wpAny (model prog w) A (pyNext (.ref it)) Q E s := by
  obtain ⟨oi, ho, hc, hd⟩ := id hit
  unfold pyNext
  refine wpAny_bind (wpAny_attempt (wpAny_callSpecial?_slot (name := Str.ofString "__next__") hit.typeIs F.slot_dict_keyiterator_next (wpAny_call_entry F.slot_dict_keyiterator_next hit.typeIs F.entry_dict_keyiterator_next ?_ (F.args_dict_keyiterator_next_1 _))))
  refine wpAny_bind (wpAny_pure (wpAny_bind (wpAny_bind ?_)))
  refine wpAny_bind (wpAny_typeNameOfWhole_keyiter hit.typeIs (wpAny_pure (wpAny_bind (wpAny_fieldsOf ho hd ?_))))
  simp only [show Builtin.Dict_items.ownsTuple "dict_keyiterator" = false by decide, Bool.false_eq_true, if_false]
  show wpAny _ _ (if (Value.ref d == Value.none) = true then _ else _) _ _ s
  rw [if_neg (show ¬ (Value.ref d == Value.none) = true from fun z => Bool.false_ne_true z)]
  refine wpAny_bind (wpAny_pure (wpAny_bind (wpAny_dictEntries hod hdd ?_)))
  rw [if_neg (show ¬ _ by simp)]
  refine wpAny_bind (wpAny_pure (wpAny_bind (wpAny_dictEpoch hod hdd ?_)))
  rw [if_neg (show ¬ _ by simp)]
  refine wpAny_pure ?_
  simp only [show ¬ (i : Int) < 0 by omega, if_false, Int.toNat_natCast, hx]
  refine wpAny_bind (wpAny_bind (wpAny_typeNameOfWhole_keyiter hit.typeIs (wpAny_pure ?_)))
  show wpAny _ _ (setField (.ref it) 0 .none >>= _) _ _ s
  refine wpAny_bind (wpAny_setField ho hd (by simp) (show wpAny _ _ (newExc (.type "StopIteration") [] >>= _) _ _ _ from wpAny_bind ?_))
  simp only [newExc, newTuple]
  refine wpAny_bind (wpAny_newObj_type (wpAny_bind (m := firstArgMember _ _) (wpAny_of_eq (a := Value.none) (by first | rfl | (simp only [firstArgMember]; rfl)) (wpAny_newObj_type ?_ (by size_fits)))) (by size_fits))
  simp only [raiseNew]
  refine wpAny_bind (wpAny_handled ?_)
  rw [show A.in1.handled = none from hh]
  refine wpAny_bind (wpAny_pure (wpAny_throw ?_))
  refine wpAny_bind (wpAny_isInstance (T := "StopIteration") (b := true) (by exact ⟨_, Heap.get?_push_size _ rfl, rfl⟩) isSubtype_stop (wpAny_pure ?_))
  exact hQ _ (((Heap.SameBut.update ..).extBut.push _).push _)
end
end ZG
namespace ZG
open PySem
open Sem (wp)
theorem entry_dloop : entryFor table "dict.update.loop" = some Builtin.«dict.update.loop» := entryFor_of_tree (by kernel_rfl)
theorem plain_dloop : plainId "dict.update.loop" = true := by decide +kernel
section
variable {prog : Program} {w : World} {Kk : Type} [DecidableEq Kk] {knd : KeyKind prog w Kk} {A : Around} {E : Value → Shared → Prop} {R : Result → Shared → Prop} {s : Shared}
/-- a pair in a list: a tuple of a tuple (the key) and a value -/
def PairAt (knd : KeyKind prog w Kk) (h : Heap) (v : Value) (x : List Kk × Addr × Value) : Prop := ∃ p o n, v = .ref p ∧ h.get? p = some o ∧ o.cls = .type "tuple" ∧ o.data = .seq #[.ref x.2.1, x.2.2] n ∧ IsTupleKey knd h x.1 x.2.1
theorem PairAt.at {h h' : Heap} {v : Value} {x : List Kk × Addr × Value} (q : PairAt knd h v x) (k : ∀ b o, (∃ y n, o.data = .seq y n) → h.get? b = some o → h'.get? b = some o) : PairAt knd h' v x := by
  obtain ⟨p, o, n, e, h1, h2, h3, o2, its, n2, g1, g2, g3, g4⟩ := q
  exact ⟨p, o, n, e, k _ _ ⟨_, _, h3⟩ h1, h2, h3, o2, its, n2, k _ _ ⟨_, _, g3⟩ g1, g2, g3, g4⟩
def putAll (xs : List (List Kk × Addr × Value)) : List (List Kk × Addr × Value) := xs.foldl (fun a x => storedH a x.1 x.2.1 x.2.2) []
theorem putAll_snoc (xs : List (List Kk × Addr × Value)) (x : List Kk × Addr × Value) : putAll (xs ++ [x]) = storedH (putAll xs) x.1 x.2.1 x.2.2 := by
  unfold putAll
  rw [List.foldl_append]
  rfl
theorem storedH_len (xs : List (List Kk × Addr × Value)) (k : List Kk) (a : Addr) (v : Value) : (storedH xs k a v).length ≤ xs.length + 1 := by
  unfold storedH
  split
  · rw [List.length_map]; omega
  · rw [List.length_append]; exact Nat.le_refl _
theorem putAll_len (xs : List (List Kk × Addr × Value)) : (putAll xs).length ≤ xs.length := by
  have g : ∀ (ys acc : List (List Kk × Addr × Value)), (ys.foldl (fun a x => storedH a x.1 x.2.1 x.2.2) acc).length ≤ acc.length + ys.length := by
    intro ys
    induction ys with
    | nil => intro acc; exact Nat.le_refl _
    | cons y r ih =>
      intro acc
      rw [List.foldl_cons, List.length_cons]
      have h1 := ih (storedH acc y.1 y.2.1 y.2.2)
      have h2 := storedH_len acc y.1 y.2.1 y.2.2
      omega
  have := g xs []
  simpa [putAll] using this
theorem code_dloop (I l d : Addr) (kvs : List (List Kk × Addr × Value)) (items : Array Value) (hz : kvs.length ≤ sizeLine) (hu : A.in1.units < cLine) (hh : A.in1.handled = none) (hsz : items.size = kvs.length) :
    ∀ (k i : Nat) (s : Shared), kvs.length - i = k → i ≤ kvs.length → s.heap.IsListIter I l i → s.heap.IsList l items → (∀ (j : Nat) x v, kvs[j]? = some x → items[j]? = some v → PairAt knd s.heap v x) → s.heap.DictOfH (tupleKind knd) d (putAll (kvs.take i)) →
      (∀ s' : Shared, (∀ b o, b ≠ d → b ≠ I → s.heap.get? b = some o → s'.heap.get? b = some o) → s'.gens = s.gens → s'.drawn = s.drawn → s'.os = s.os → s'.heap.DictOfH (tupleKind knd) d (putAll kvs) → R (.ok (.ret .none)) s') →
      codeAny (model prog w) A (.builtin "dict.update.loop" ⟨[.ref d, .ref I, rawInt i, .none], []⟩) R s := by
  intro k
  induction k with
  | zero =>
    intro i s hk hi hit hl hp hd hR
    have hin : i = kvs.length := by omega
    subst hin
    refine codeAny_builtin entry_dloop ?_
    rw [Around.under_plainId plain_dloop _]
    show wpAny _ A.in1 (pyNext (.ref I) >>= _) _ _ s
    have dI : d ≠ I := by
      obtain ⟨od, es, ep, h1, _, h3, _⟩ := hd
      obtain ⟨oi, g1, _, g3⟩ := hit
      intro z
      rw [z, g1] at h1
      cases h1
      rw [g3] at h3
      cases h3
    refine wpAny_bind (wpAny_pyNext_list_end hh hit hl (by rw [Array.getElem?_eq_none]; omega) fun h' he => ?_)
    show wpAny _ A.in1 (Builtin.Dict.addKeywords d [] >>= _) _ _ _
    refine wpAny_bind (wpAny_pure (wpAny_pure (hR _ (fun b o n1 n2 e => he b o n2 e) rfl rfl rfl ?_)))
    rw [List.take_length] at hd
    obtain ⟨o, es, ep, h1, h2, h3, h4, h5, h6⟩ := hd
    refine ⟨o, es, ep, he d o dI h1, h2, h3, h4, fun x hx => ?_, h6⟩
    obtain ⟨o2, its, n2, g1, g2, g3, g4⟩ := h5 x hx
    refine ⟨o2, its, n2, he _ _ (fun z => ?_) g1, g2, g3, g4⟩
    obtain ⟨oi, k1, _, k3⟩ := hit
    rw [z, k1] at g1
    cases g1
    rw [k3] at g3
    cases g3
  | succ k ih =>
    intro i s hk hi hit hl hp hd hR
    have hlt : i < kvs.length := by omega
    refine codeAny_builtin entry_dloop ?_
    rw [Around.under_plainId plain_dloop _]
    show wpAny _ A.in1 (pyNext (.ref I) >>= _) _ _ s
    have hv : items[i]? = some items[i] := Array.getElem?_eq_getElem (by omega)
    have hx : kvs[i]? = some kvs[i] := List.getElem?_eq_getElem hlt
    have seqI : ∀ b o, (∃ y n, o.data = .seq y n) → s.heap.get? b = some o → b ≠ I := fun b o ⟨y, n, q⟩ e z => by
      obtain ⟨oi, k1, _, k3⟩ := hit
      rw [z, k1] at e
      cases e
      rw [k3] at q
      cases q
    have seqD : ∀ b o, (∃ y n, o.data = .seq y n) → s.heap.get? b = some o → b ≠ d := fun b o ⟨y, n, q⟩ e z => by
      obtain ⟨od, es, ep, h1, _, h3, _⟩ := hd
      rw [z, h1] at e
      cases e
      rw [h3] at q
      cases q
    have dI : d ≠ I := by
      obtain ⟨od, es, ep, h1, _, h3, _⟩ := hd
      obtain ⟨oi, g1, _, g3⟩ := hit
      intro z
      rw [z, g1] at h1
      cases h1
      rw [g3] at h3
      cases h3
    have lI : l ≠ I := by obtain ⟨ol, h1, h2, n, h3⟩ := hl; exact seqI l ol ⟨_, _, h3⟩ h1
    have lD : l ≠ d := by obtain ⟨ol, h1, h2, n, h3⟩ := hl; exact seqD l ol ⟨_, _, h3⟩ h1
    refine wpAny_bind (wpAny_pyNext_list_item hit hl hv fun h' hit' hs' => ?_)
    have hp' := hp
    obtain ⟨p, o, n, ev, g1, g2, g3, gk⟩ := hp i _ _ hx hv
    have k1 : h'.get? p = some o := (hs'.2 p (seqI p o ⟨_, _, g3⟩ g1)).trans g1
    show wpAny _ A.in1 (holding [items[i]] _ >>= _) _ _ _
    refine wpAny_bind (wpAny_holding ?_)
    rw [ev]
    have hT : ({ s with heap := h' } : Shared).TypeIs (.ref p) "tuple" := ⟨o, k1, g2⟩
    refine wpAny_bind (wpAny_tryCatch ?_)
    unfold Builtin.Dict.pairItems
    refine wpAny_bind (wpAny_typeOf hT ?_)
    rw [if_pos (by decide)]
    unfold seqItems?
    refine wpAny_bind (wpAny_bind (wpAny_load k1 ?_))
    rw [g3]
    refine wpAny_pure (wpAny_pure ?_)
    show wpAny _ A.in1 (holding [.ref kvs[i].2.1, kvs[i].2.2] (dictSet d (.ref kvs[i].2.1) kvs[i].2.2)) _ _ _
    have hd' : h'.DictOfH (tupleKind knd) d (putAll (kvs.take i)) := by
      obtain ⟨o, es, ep, h1, h2, h3, h4, h5, h6⟩ := hd
      refine ⟨o, es, ep, (hs'.2 d dI).trans h1, h2, h3, h4, fun x hx => ?_, h6⟩
      obtain ⟨o2, its, n2, g1, g2, g3, g4⟩ := h5 x hx
      exact ⟨o2, its, n2, (hs'.2 _ (seqI _ _ ⟨_, _, g3⟩ g1)).trans g1, g2, g3, g4⟩
    have gk' : IsTupleKey knd h' kvs[i].1 kvs[i].2.1 := by
      obtain ⟨o2, its, n2, g1, g2, g3, g4⟩ := gk
      exact ⟨o2, its, n2, (hs'.2 _ (seqI _ _ ⟨_, _, g3⟩ g1)).trans g1, g2, g3, g4⟩
    have hlen : (putAll (kvs.take i)).length ≤ sizeLine := by
      have := putAll_len (kvs.take i)
      rw [List.length_take] at this
      omega
    refine wpAny_holding (wpAny_dictSet_heap (knd := tupleKind knd) (s := { s with heap := h' }) (hsz := hlen) hu gk' hd' fun h2 hd2 hs2 => ?_)
    refine wpAny_pure ⟨plainId_quiet plain_dloop _, ?_⟩
    have et : kvs.take (i + 1) = kvs.take i ++ [kvs[i]] := by rw [List.take_add_one, hx]; rfl
    have ei : (rawInt ((i : Int) + 1)) = rawInt ((i + 1 : Nat) : Int) := by push_cast; rfl
    have kk : ∀ b ob, b ≠ d → b ≠ I → s.heap.get? b = some ob → h2.get? b = some ob := fun b ob n1 n2 e => (hs2.2 b n1).trans ((hs'.2 b n2).trans e)
    show codeAny _ A (.builtin "dict.update.loop" ⟨[.ref d, .ref I, rawInt ((i : Int) + 1), .none], []⟩) R _
    rw [ei]
    refine ih (i + 1) _ (by omega) hlt ?_ ?_ (fun j x v e1 e2 => (hp j x v e1 e2).at fun b ob q e => kk b ob (seqD b ob q e) (seqI b ob q e) e) (by rw [et, putAll_snoc]; exact hd2) fun s' kp eg ed eo dd => ?_
    · obtain ⟨oi, q1, q2, q3⟩ := hit'
      exact ⟨oi, (hs2.2 I dI.symm).trans q1, q2, q3⟩
    · obtain ⟨ol, q1, q2, q3⟩ := hl
      exact ⟨ol, kk l ol lD lI q1, q2, q3⟩
    · exact hR s' (fun b ob n1 n2 e => kp b ob n1 n2 (kk b ob n1 n2 e)) eg ed eo dd
end
end ZG
namespace ZG
open PySem
open Sem (wp)
section
variable {prog : Program} {w : World} {A : Around} {E : Value → Shared → Prop} {s : Shared}
theorem miss_keys : typeLookup (.type "list") "keys" = pure none := by rw [typeLookup_type, builtinLookup_eq_fast]; kernel_rfl
/-- a list has no keys -/
theorem keysMiss {a : Addr} {o : Obj} {xs : Array Value} {k : Nat} {Q : Option Value → Shared → Prop} (hx : s.heap.get? a = some o) (hc : o.cls = .type "list") (hdat : o.data = .seq xs k) (hd : o.dict = none) (hA : A.handled = none)
    (h : ∀ h' tk e, Heap.NewExcOf s.heap h' e "AttributeError" → Q none { s with heap := h', toks := tk }) : wpAny (model prog w) A (getAttr? (.ref a) "keys") Q E s := by
  obtain ⟨cl, dct, dat, sl⟩ := o; simp only at hc hdat hd
  subst hc hdat hd; obtain ⟨hp, gg, dr, tk, os⟩ := s
  have hT : ∀ tk1, (⟨hp, gg, dr, tk1, os⟩ : Shared).TypeIs (.ref a) "list" := fun _ => ⟨_, hx, rfl⟩
  have f1 := sub_AttributeError; have f3 := F.slot_list_getattribute.lookup; have f4 := F.slot_list_getattribute.bind (.ref a); have f5 := am_list_getattr_none
  unfold getAttr? getAttrBy? getAttrBy
  repeat (any_goals (first | assumption | exact hT _ | ((with_reducible show wpAny _ _ (call (Value.builtin "list.__getattribute__") _ _) _ _ _); refine call_meets F.slot_list_getattribute (hT _) am_entry_list_getattribute (F.args_list_getattribute_2 _ _) (meets_getattribute_miss_list a xs k sl "keys" _ miss_keys (by decide +kernel) (by decide +kernel)) ⟨hx, hA, fun h' tk' e hx' => ?_⟩) | wp_step))
  obtain ⟨tt1, uu1, hee⟩ := hx'.there
  refine (show wpAny _ _ (getattributeRaised _ _ _ _ _ _ _) _ _ _ from ?_)
  unfold getattributeRaised; repeat (any_goals (first | assumption | wp_step))

  exact h _ _ _ hx'.of
end
end ZG
namespace ZG
open PySem
open Sem (wp)
section
variable {prog : Program} {w : World} {Kk : Type} [DecidableEq Kk] {knd : KeyKind prog w Kk} {A : Around} {E : Value → Shared → Prop} {s : Shared}
theorem callDict {l : Addr} {o : Obj} {n : Nat} {kvs : List (List Kk × Addr × Value)} {items : Array Value} {Q : Value → Shared → Prop} (hx : s.heap.get? l = some o) (hc : o.cls = .type "list") (hdat : o.data = .seq items n) (hd : o.dict = none) (hA : A.handled = none)
    (hu : A.units + 20 < cLine) (hz : kvs.length ≤ sizeLine) (hsz : items.size = kvs.length) (hp : ∀ (j : Nat) x v, kvs[j]? = some x → items[j]? = some v → PairAt knd s.heap v x)
    (h : ∀ h' tk, (∀ b o, s.heap.get? b = some o → h'.get? b = some o) → h'.DictOfH (tupleKind knd) s.heap.objs.size (putAll kvs) → Q (.ref s.heap.objs.size) { s with heap := h', toks := tk }) :
    wpAny (model prog w) A (call (.type "dict") [.ref l]) Q E s := by
  refine callType_codes (Q₁ := fun obj s₁ => obj = .ref s.heap.objs.size ∧ s₁ = { s with heap := s.heap.push { cls := .type "dict", data := .dict #[] } }) F.kt_called_dict (F.kt_typeCall_dict_1 _) F.entry_dict_init (kt_code_dict_new _ ⟨rfl, rfl⟩) ?_
  rintro obj s₁ ⟨rfl, rfl⟩
  have k1 : ∀ b ob, s.heap.get? b = some ob → (s.heap.push { cls := .type "dict", data := .dict #[] }).get? b = some ob := fun b ob e => Heap.get?_push_of_some _ e
  have hnew : (s.heap.push { cls := .type "dict", data := .dict #[] }).DictOfH (tupleKind knd) s.heap.objs.size [] := Heap.DictOfH.new s.heap
  refine ⟨hnew.typeIs, F.args_dict_init_2 _ _, ?_⟩
  unfold Builtin.«dict.__init__» Builtin.Dict.selfAndRest
  refine wpAny_bind (wpAny_bind (wpAny_notOrdered_dict hnew.typeIs (show wpAny _ _ (pure (s.heap.objs.size, [Value.ref l])) _ _ _ from wpAny_pure ?_)))
  show wpAny _ _ (Builtin.Dict.updateFrom "dict.__init__" s.heap.objs.size (.ref l) [] .none) _ _ _
  unfold Builtin.Dict.updateFrom
  have hT : ({ s with heap := s.heap.push { cls := .type "dict", data := .dict #[] } } : Shared).TypeIs (.ref l) "list" := ⟨o, k1 _ _ hx, hc⟩
  refine wpAny_bind (wpAny_typeOf hT ?_)
  rw [if_pos (by decide)]
  refine wpAny_bind (keysMiss (s := { s with heap := s.heap.push { cls := .type "dict", data := .dict #[] } }) (k1 _ _ hx) hc hdat hd (by simp [hA]) fun h2 tk2 e2 hx2 => ?_)
  have k2 : ∀ b ob, (s.heap.push { cls := .type "dict", data := .dict #[] }).get? b = some ob → h2.get? b = some ob := hx2.keeps
  have hl2 : ({ s with heap := h2, toks := tk2 } : Shared).heap.IsList l items := ⟨o, k2 _ _ (k1 _ _ hx), hc, n, hdat⟩
  refine wpAny_bind (wpAny_rule ?_)
  refine wpAny_bind (wpAny_pyIter_list hl2 ?_)
  refine wpAny_pure ⟨plainId_quiet plain_dloop _, ?_⟩
  have k3 : ∀ b ob, h2.get? b = some ob → (h2.push { cls := .type "list_iterator", data := .fields #[.ref l, .int 0 0] }).get? b = some ob := fun b ob e => Heap.get?_push_of_some _ e
  refine code_dloop (knd := knd) h2.objs.size l s.heap.objs.size kvs items hz (by simp; omega) (by simp [hA]) hsz (kvs.length - 0) 0 _ rfl (Nat.zero_le _) ⟨_, Heap.get?_push_size _ rfl, rfl, rfl⟩ (hl2.push _)
    (fun j x v e1 e2 => (hp j x v e1 e2).at fun b ob _ e => k3 _ _ (k2 _ _ (k1 _ _ e))) ?_ fun s' kp eg ed eo dd => ?_
  · obtain ⟨o', es, ep, h1, h2', h3, h4, h5, h6⟩ := hnew
    exact ⟨o', es, ep, k3 _ _ (k2 _ _ h1), h2', h3, h4, fun x hx => absurd (show x ∈ ([] : List (List Kk × Addr × Value)) from hx) (by simp), h6⟩
  · obtain ⟨h', g', d', tk', os'⟩ := s'
    simp only at eg ed eo
    subst eg ed eo
    refine ⟨rfl, h h' tk' (fun b ob e => kp b ob ?_ ?_ (k3 _ _ (k2 _ _ (k1 _ _ e)))) dd⟩
    · exact Nat.ne_of_lt (Heap.lt_size e)
    · exact Nat.ne_of_lt (Heap.lt_size (k2 _ _ (k1 _ _ e)))
end
end ZG

namespace L2
open PySem PySem.Spec PyProof.Rows
/-- keys of whole numbers -/
def kI (ns : List Int) : List Key := ns.map Sum.inl
theorem kI_V (ns : List Int) : (kI ns).map kV = ns.map V.int := by
  unfold kI
  rw [List.map_map]
  rfl
def putKs (kvs : List (List Key × V)) : List (List Key × V) := kvs.foldl (fun a x => putK a x.1 x.2) []
/-- the values stand for pairs of a tuple and a value -/
abbrev PairsV (H : Hp) : List V → List (List Key × V) → Prop := Paired fun v x => ∃ a b, v = .ref a ∧ H a = some (.tup [.ref b, x.2]) ∧ H b = some (.tup (x.1.map kV))
theorem putKs_rel {H : Hp} : ∀ {kvs : List (List Key × V)} {xs : List (List Key × Addr × Value)} {k0 : List (List Key × V)} {x0 : List (List Key × Addr × Value)}, KT H k0 x0 → KT H kvs xs →
    KT H (kvs.foldl (fun a x => putK a x.1 x.2) k0) (xs.foldl (fun a x => storedH a x.1 x.2.1 x.2.2) x0)
  | _, _, _, _, r, .nil => r
  | _, _, _, _, r, .cons (a := p) (b := q) h t => by
    obtain ⟨h1, h2, h3⟩ := h
    refine putKs_rel (k0 := putK _ p.1 p.2) (x0 := storedH _ q.1 q.2.1 q.2.2) ?_ t
    rw [← h1]
    exact r.put p.1 h2 h3
theorem putKs_len (kvs : List (List Key × V)) : (putKs kvs).length ≤ kvs.length := by
  have g : ∀ (ys acc : List (List Key × V)), (ys.foldl (fun a x => putK a x.1 x.2) acc).length ≤ acc.length + ys.length := by
    intro ys
    induction ys with
    | nil => intro acc; exact Nat.le_refl _
    | cons y r ih =>
      intro acc
      rw [List.foldl_cons, List.length_cons]
      have h1 := ih (putK acc y.1 y.2)
      have h2 := length_putK acc y.1 y.2
      omega
  have := g kvs []
  simpa [putKs] using this
section
variable {X : Cx} {pins : List (Addr × Obj)} {σ : St} {H : Hp} {s : Shared}
theorem pairs_raw (I : Inv X pins σ H s) : ∀ {ys : List V} {us : List Value} {kvs : List (List Key × V)}, Vals ys us → PairsV H ys kvs → ∃ xs : List (List Key × Addr × Value), KT H kvs xs ∧ xs.length = kvs.length ∧ us.length = kvs.length ∧ ∀ (j : Nat) x v, xs[j]? = some x → us[j]? = some v → ZG.PairAt (mixKind X.prog X.w) s.heap v x
  | _, _, _, .nil, .nil => ⟨[], .nil, rfl, rfl, fun j x v e => by simp at e⟩
  | _, _, _, .cons hv tv, .cons (b := p) hp tp => by
    obtain ⟨xs, k, l1, l2, q⟩ := pairs_raw I tv tp
    obtain ⟨a, b, e, ha, hb⟩ := hp
    subst e
    cases hv
    obtain ⟨_, its, r, o, h1, h2, n, h3⟩ := (show ObjOk X.prog X.w H s.heap a (.tup [.ref b, p.2]) from I.hok a _ ha)
    obtain ⟨u1, u2, eu, r1, r2⟩ := Vals.two r
    cases r1
    subst eu
    have ky := key_of I.hok hb
    refine ⟨(p.1, b, u2) :: xs, .cons ⟨rfl, hb, r2⟩ k, by rw [List.length_cons, List.length_cons, l1], by rw [List.length_cons, List.length_cons, l2], fun j x v e1 e2 => ?_⟩
    cases j with
    | zero =>
      simp only [List.getElem?_cons_zero, Option.some.injEq] at e1 e2
      subst e1 e2
      exact ⟨a, o, n, rfl, h1, h2, h3, ky⟩
    | succ j =>
      simp only [List.getElem?_cons_succ] at e1 e2
      exact q j x v e1 e2
/-- dict([(key, value), ..]) -/
theorem call_dictP (hc : X.calm = true) (hu : X.A.units + 20 < cLine) : CallR X (.type "dict") (fun xs H Q => ∃ l ys kvs, xs = [.ref l] ∧ H l = some (.lst ys) ∧ PairsV H ys kvs ∧ New (.dT (putKs kvs)) H Q) := by
  intro pins s σ H xs us Q I r h
  obtain ⟨l, ys, kvs, rfl, hl, hp, q⟩ := h
  obtain ⟨u, rfl, ru⟩ := vals1 r
  cases ru
  obtain ⟨hz, its, n, rv, ho⟩ := (show ObjOk X.prog X.w H s.heap l (.lst ys) from I.hok l _ hl)
  obtain ⟨xs, kt, l1, l2, pr⟩ := pairs_raw I rv hp
  have hyl := rv.length
  have hz' : xs.length ≤ sizeLine := by omega
  refine ZG.callDict (knd := mixKind X.prog X.w) (kvs := xs) ho rfl rfl rfl (I.ok.hd hc) hu hz' (by simp; omega) (fun j x v e1 e2 => pr j x v e1 (by simpa using e2)) fun h' tk kp dd => ?_
  obtain ⟨o, es, ep, h1, h2, h3, h4, h5, h6⟩ := dd
  refine ⟨.ref s.heap.objs.size, _, I.laid (t' := tk) (a := s.heap.objs.size) (o := .dT (putKs kvs)) kp (Nat.le_refl _) ⟨?_, beq_eq_false_iff_ne.mpr (Ne.symm (Nat.ne_of_lt I.big)), _, (putKs_rel .nil kt).keeps fun c zs ec => ?_, o, es, ep, h1, h2, h3, h4, h6⟩, rfl, q.at (I.hok.fresh (Nat.le_refl _))⟩
  · have := putKs_len kvs
    omega
  · rw [upd_ne (ne_of_none ec (I.hok.fresh (Nat.le_refl _)))]
    exact ec
end
/-! ### for k in d -/
end L2

namespace ZS
open PySem PyProof.Rows
def gal : Bool → Keyed → Array Keyed → Nat → Nat → Nat → StateT SortSt Sem (Option Nat) := sortPriv% PySem.Builtin.gallop
def mLo : Array Keyed → Array Keyed → StateT SortSt Sem (Array Keyed) := sortPriv% PySem.Builtin.mergeLo
def mHi : Array Keyed → Array Keyed → StateT SortSt Sem (Array Keyed) := sortPriv% PySem.Builtin.mergeHi
def bey (lf : Bool) (ky : Keyed) (ar : Array Keyed) (b0 i : Nat) : StateT SortSt Sem (Option Bool) := do
  let xx ← elem' ar (b0 + i)
  if lf then lt' xx ky else return (← lt' ky xx).map (!·)
def galLast (lf : Bool) (ky : Keyed) (ar : Array Keyed) (b0 n l0 h0 : Nat) : StateT SortSt Sem (Option Nat) := do
  let mut l := l0
  let mut h := h0
  for _ in [0:n] do
    if l ≥ h then break
    let m := l + (h - l) / 2
    let some mo ← bey lf ky ar b0 m | return none
    if mo then l := m + 1 else h := m
  return some h
def galUp (lf : Bool) (ky : Keyed) (ar : Array Keyed) (b0 n h0 : Nat) : StateT SortSt Sem (Option Nat) := do
  let mut la := 0
  let mut of := 1
  for _ in [0:n] do
    if of ≥ n - h0 then break
    let some mo ← bey lf ky ar b0 (h0 + of) | return none
    if !mo then break
    la := of
    of := 2 * of + 1
  galLast lf ky ar b0 n (h0 + la + 1) (h0 + min of (n - h0))
def galDown (lf : Bool) (ky : Keyed) (ar : Array Keyed) (b0 n h0 : Nat) : StateT SortSt Sem (Option Nat) := do
  let mut la := 0
  let mut of := 1
  for _ in [0:n] do
    if of ≥ h0 + 1 then break
    let some fo ← bey lf ky ar b0 (h0 - of) | return none
    if fo then break
    la := of
    of := 2 * of + 1
  galLast lf ky ar b0 n (h0 + 1 - min of (h0 + 1)) (h0 - la)
theorem gal_eq (lf : Bool) (ky : Keyed) (ar : Array Keyed) (b0 n h0 : Nat) : gal lf ky ar b0 n h0 = (do
  let some rt ← bey lf ky ar b0 h0 | return none
  if rt then galUp lf ky ar b0 n h0 else galDown lf ky ar b0 n h0) := rfl
section
variable {M : Model} {A : Around} {E : Value → Shared → Prop} {s : Shared}
/-- gallop finds how many are beyond, wherever it begins -/
theorem wp_gal {lf : Bool} {ky : Keyed} {ar : Array Keyed} {b0 n h0 : Nat} {st : SortSt} {Q : Option Nat → SortSt → Prop} {bd : Nat → Bool} (hh : h0 < n) (hb : ∀ (i : Nat) (R : Option Bool → SortSt → Prop), i < n → R (some (bd i)) st → wpS M A E s (bey lf ky ar b0 i) R st)
    (mono : ∀ i j, i ≤ j → j < n → bd j = true → bd i = true) (h : ∀ k, k ≤ n → (∀ i, i < k → bd i = true) → (∀ i, k ≤ i → i < n → bd i = false) → Q (some k) st) : wpS M A E s (gal lf ky ar b0 n h0) Q st := by
  rw [gal_eq]
  have last : ∀ (l hi : Nat), l ≤ hi → hi ≤ n → (∀ i, i < l → bd i = true) → (∀ i, hi ≤ i → i < n → bd i = false) → wpS M A E s (galLast lf ky ar b0 n l hi) Q st := fun l hi h1 h2 h3 h4 => by
    unfold galLast
    dsimp only
    refine wpS_bind (wpS_forRange (I := fun x c st' => st' = st ∧ ∃ l hi, c = (none, l, hi) ∧ l ≤ hi ∧ hi ≤ n ∧ hi - l ≤ n - x ∧ (∀ i, i < l → bd i = true) ∧ (∀ i, hi ≤ i → i < n → bd i = false)) ?_ ?_ ⟨rfl, l, hi, rfl, h1, h2, by omega, h3, h4⟩)
    · rintro x c st' _ hx ⟨rfl, l, hi, rfl, g1, g2, g3, g4, g5⟩
      dsimp only
      by_cases z : l ≥ hi
      · rw [if_pos z]
        have e : l = hi := by omega
        subst e
        exact wpS_pure (wpS_pure (h l g2 g4 g5))
      · rw [if_neg z]
        refine wpS_bind (hb _ _ (by omega) ?_)
        dsimp only
        cases e : bd (l + (hi - l) / 2) with
        | true =>
          simp only [if_true]
          exact wpS_pure ⟨rfl, _, _, rfl, by omega, g2, by omega, fun i hi' => mono i _ (by omega) (by omega) e, g5⟩
        | false =>
          simp only [Bool.false_eq_true, if_false]
          refine wpS_pure ⟨rfl, _, _, rfl, by omega, by omega, by omega, g4, fun i h1 h2 => ?_⟩
          cases e2 : bd i with
          | false => rfl
          | true => rw [mono _ i h1 h2 e2] at e; cases e
    · rintro c st' ⟨rfl, l, hi, rfl, g1, g2, g3, g4, g5⟩
      have e : l = hi := by omega
      subst e
      exact wpS_pure (h l g2 g4 g5)
  refine wpS_bind (hb _ _ hh ?_)
  dsimp only
  cases e0 : bd h0 with
  | true =>
    simp only [if_true]
    unfold galUp
    dsimp only
    refine wpS_bind (wpS_forRange (I := fun x c st' => st' = st ∧ ∃ la of, c = (none, la, of) ∧ la < of ∧ x + 1 ≤ of ∧ h0 + la < n ∧ bd (h0 + la) = true) ?_ ?_ ⟨rfl, 0, 1, rfl, by omega, by omega, by omega, e0⟩)
    · rintro x c st' _ hx ⟨rfl, la, of, rfl, g1, g2, g3, g4⟩
      dsimp only
      by_cases z : of ≥ n - h0
      · rw [if_pos z]
        exact wpS_pure (last (h0 + la + 1) (h0 + min of (n - h0)) (by omega) (by omega) (fun i hi => mono i _ (by omega) g3 g4) (fun i h1 h2 => by omega))
      · rw [if_neg z]
        refine wpS_bind (hb _ _ (by omega) ?_)
        dsimp only
        cases e : bd (h0 + of) with
        | false =>
          simp only [Bool.not_false, if_true]
          refine wpS_pure (last (h0 + la + 1) (h0 + min of (n - h0)) (by omega) (by omega) (fun i hi => mono i _ (by omega) g3 g4) (fun i h1 h2 => ?_))
          cases e2 : bd i with
          | false => rfl
          | true => rw [mono (h0 + of) i (by omega) h2 e2] at e; cases e
        | true =>
          simp only [Bool.not_true, Bool.false_eq_true, if_false]
          exact wpS_pure ⟨rfl, _, _, rfl, by omega, by omega, by omega, e⟩
    · rintro c st' ⟨rfl, la, of, rfl, g1, g2, g3, g4⟩
      exact last (h0 + la + 1) (h0 + min of (n - h0)) (by omega) (by omega) (fun i hi => mono i _ (by omega) g3 g4) (fun i h1 h2 => by omega)
  | false =>
    simp only [Bool.false_eq_true, if_false]
    unfold galDown
    dsimp only
    refine wpS_bind (wpS_forRange (I := fun x c st' => st' = st ∧ ∃ la of, c = (none, la, of) ∧ la < of ∧ x + 1 ≤ of ∧ la ≤ h0 ∧ bd (h0 - la) = false) ?_ ?_ ⟨rfl, 0, 1, rfl, by omega, by omega, by omega, e0⟩)
    · rintro x c st' _ hx ⟨rfl, la, of, rfl, g1, g2, g3, g4⟩
      have lo : ∀ i, h0 - la ≤ i → i < n → bd i = false := fun i h1 h2 => by
        cases e2 : bd i with
        | false => rfl
        | true => rw [mono (h0 - la) i h1 h2 e2] at g4; cases g4
      dsimp only
      by_cases z : of ≥ h0 + 1
      · rw [if_pos z]
        exact wpS_pure (last (h0 + 1 - min of (h0 + 1)) (h0 - la) (by omega) (by omega) (fun i hi => by omega) lo)
      · rw [if_neg z]
        refine wpS_bind (hb _ _ (by omega) ?_)
        dsimp only
        cases e : bd (h0 - of) with
        | true =>
          simp only [if_true]
          exact wpS_pure (last (h0 + 1 - min of (h0 + 1)) (h0 - la) (by omega) (by omega) (fun i hi => mono i _ (by omega) (by omega) e) lo)
        | false =>
          simp only [Bool.false_eq_true, if_false]
          exact wpS_pure ⟨rfl, _, _, rfl, by omega, by omega, by omega, e⟩
    · rintro c st' ⟨rfl, la, of, rfl, g1, g2, g3, g4⟩
      refine last (h0 + 1 - min of (h0 + 1)) (h0 - la) (by omega) (by omega) (fun i hi => by omega) fun i h1 h2 => ?_
      cases e2 : bd i with
      | false => rfl
      | true => rw [mono (h0 - la) i h1 h2 e2] at g4; cases g4
end
end ZS

namespace ZS
open PySem PyProof.Rows
def setG (g : Nat) : StateT SortSt Sem Unit := modify fun s => SortSt.mk' (kindOf s) (arrOf s) (pendingOf s) g (failedOf s)
def dn (a b out : Array Keyed) (i j : Nat) : Array Keyed := out ++ a.extract i a.size ++ b.extract j b.size
def lastA (a b out : Array Keyed) (i j : Nat) : Array Keyed := out ++ b.extract j b.size ++ a.extract i a.size
theorem mLo_eq (a b : Array Keyed) : mLo a b = (do
  rule "list.sort.merge-lo"
  let mut out : Array Keyed := #[← elem' b 0]
  let mut i := 0
  let mut j := 1
  if j == b.size then return dn a b out i j
  if i + 1 == a.size then return lastA a b out i j
  let mut mg := gallopOf (← get)
  for _ in [0:a.size + b.size] do
    let mut ca := 0
    let mut cb := 0
    for _ in [0:a.size + b.size] do
      let some bw ← lt' (← elem' b j) (← elem' a i) | return dn a b out i j
      if bw then
        out := out.push (← elem' b j); j := j + 1; cb := cb + 1; ca := 0
        if j == b.size then return dn a b out i j
        if cb ≥ mg then break
      else
        out := out.push (← elem' a i); i := i + 1; ca := ca + 1; cb := 0
        if i + 1 == a.size then return lastA a b out i j
        if ca ≥ mg then break
    rule "list.sort.gallop"
    mg := mg + 1
    for _ in [0:a.size + b.size] do
      if mg > 1 then mg := mg - 1
      setG mg
      let some k ← gal false (← elem' b j) a i (a.size - i) 0 | return dn a b out i j
      ca := k
      if k > 0 then
        out := out ++ a.extract i (i + k); i := i + k
        if i + 1 == a.size then return lastA a b out i j
        if i == a.size then return dn a b out i j
      out := out.push (← elem' b j); j := j + 1
      if j == b.size then return dn a b out i j
      let some k ← gal true (← elem' a i) b j (b.size - j) 0 | return dn a b out i j
      cb := k
      if k > 0 then
        out := out ++ b.extract j (j + k); j := j + k
        if j == b.size then return dn a b out i j
      out := out.push (← elem' a i); i := i + 1
      if i + 1 == a.size then return lastA a b out i j
      if ca < 7 && cb < 7 then break
    mg := mg + 1
    setG mg
  unsupported "internal:list.sort.merge-bound") := rfl
abbrev GS := Option (Array Keyed) × Array Keyed × Nat × Nat × Nat × Nat × Nat
abbrev FS := Option (Array Keyed) × Array Keyed × Nat × Nat × Nat × Nat
abbrev OS := Option (Array Keyed) × Array Keyed × Nat × Nat × Nat
def g3 (a b out : Array Keyed) (i j mg ca cb : Nat) : StateT SortSt Sem (ForInStep GS) := do
  let y ← elem' a i
  if (i + 1 + 1 == a.size) = true then pure (ForInStep.done (some (lastA a b (out.push y) (i + 1) j), out.push y, i + 1, j, mg, ca, cb))
  else if (decide (ca < 7) && decide (cb < 7)) = true then pure (ForInStep.done (none, out.push y, i + 1, j, mg, ca, cb))
  else pure (ForInStep.yield (none, out.push y, i + 1, j, mg, ca, cb))
def g2 (a b out : Array Keyed) (i j mg ca cb : Nat) : StateT SortSt Sem (ForInStep GS) := do
  let y ← elem' b j
  if (j + 1 == b.size) = true then pure (ForInStep.done (some (dn a b (out.push y) i (j + 1)), out.push y, i, j + 1, mg, ca, cb))
  else do
    let z ← elem' a i
    let some k ← gal true z b (j + 1) (b.size - (j + 1)) 0 | pure (ForInStep.done (some (dn a b (out.push y) i (j + 1)), out.push y, i, j + 1, mg, ca, cb))
    if k > 0 then
        if (j + 1 + k == b.size) = true then pure (ForInStep.done (some (dn a b (out.push y ++ b.extract (j + 1) (j + 1 + k)) i (j + 1 + k)), out.push y ++ b.extract (j + 1) (j + 1 + k), i, j + 1 + k, mg, ca, k))
        else g3 a b (out.push y ++ b.extract (j + 1) (j + 1 + k)) i (j + 1 + k) mg ca k
    else g3 a b (out.push y) i (j + 1) mg ca k
def g1 (a b out : Array Keyed) (i j mg ca cb : Nat) : StateT SortSt Sem (ForInStep GS) := do
  setG mg
  let y ← elem' b j
  let some k ← gal false y a i (a.size - i) 0 | pure (ForInStep.done (some (dn a b out i j), out, i, j, mg, ca, cb))
  if k > 0 then
      if (i + k + 1 == a.size) = true then pure (ForInStep.done (some (lastA a b (out ++ a.extract i (i + k)) (i + k) j), out ++ a.extract i (i + k), i + k, j, mg, k, cb))
      else if (i + k == a.size) = true then pure (ForInStep.done (some (dn a b (out ++ a.extract i (i + k)) (i + k) j), out ++ a.extract i (i + k), i + k, j, mg, k, cb))
      else g2 a b (out ++ a.extract i (i + k)) (i + k) j mg k cb
  else g2 a b out i j mg k cb
def f1 (a b out : Array Keyed) (i j ca cb mg : Nat) : StateT SortSt Sem (ForInStep FS) := do
  let y ← elem' b j
  let z ← elem' a i
  let some bw ← lt' y z | pure (ForInStep.done (some (dn a b out i j), out, i, j, ca, cb))
  if bw = true then do
      let y ← elem' b j
      if (j + 1 == b.size) = true then pure (ForInStep.done (some (dn a b (out.push y) i (j + 1)), out.push y, i, j + 1, 0, cb + 1))
      else if cb + 1 ≥ mg then pure (ForInStep.done (none, out.push y, i, j + 1, 0, cb + 1)) else pure (ForInStep.yield (none, out.push y, i, j + 1, 0, cb + 1))
  else do
      let z ← elem' a i
      if (i + 1 + 1 == a.size) = true then pure (ForInStep.done (some (lastA a b (out.push z) (i + 1) j), out.push z, i + 1, j, ca + 1, 0))
      else if ca + 1 ≥ mg then pure (ForInStep.done (none, out.push z, i + 1, j, ca + 1, 0)) else pure (ForInStep.yield (none, out.push z, i + 1, j, ca + 1, 0))
def oLo (a b : Array Keyed) (c : OS) : StateT SortSt Sem (ForInStep OS) := do
  let r ← forIn [0:a.size + b.size] ((none, c.2.1, c.2.2.1, c.2.2.2.1, 0, 0) : FS) fun _ d => f1 a b d.2.1 d.2.2.1 d.2.2.2.1 d.2.2.2.2.1 d.2.2.2.2.2 c.2.2.2.2
  match r.1 with
  | some q => pure (ForInStep.done (some q, r.2.1, r.2.2.1, r.2.2.2.1, c.2.2.2.2))
  | none => do
    liftM (rule "list.sort.gallop")
    let e ← forIn [0:a.size + b.size] ((none, r.2.1, r.2.2.1, r.2.2.2.1, c.2.2.2.2 + 1, r.2.2.2.2.1, r.2.2.2.2.2) : GS) fun _ d =>
      if d.2.2.2.2.1 > 1 then g1 a b d.2.1 d.2.2.1 d.2.2.2.1 (d.2.2.2.2.1 - 1) d.2.2.2.2.2.1 d.2.2.2.2.2.2 else g1 a b d.2.1 d.2.2.1 d.2.2.2.1 d.2.2.2.2.1 d.2.2.2.2.2.1 d.2.2.2.2.2.2
    match e.1 with
    | some q => pure (ForInStep.done (some q, e.2.1, e.2.2.1, e.2.2.2.1, e.2.2.2.2.1))
    | none => do
      setG (e.2.2.2.2.1 + 1)
      pure (ForInStep.yield (none, e.2.1, e.2.2.1, e.2.2.2.1, e.2.2.2.2.1 + 1))
set_option maxHeartbeats 2000000 in
theorem mLo_eq2 (a b : Array Keyed) : mLo a b = (do
    liftM (rule "list.sort.merge-lo")
    let y ← elem' b 0
    if (1 == b.size) = true then pure (dn a b #[y] 0 1)
    else if (0 + 1 == a.size) = true then pure (lastA a b #[y] 0 1)
    else do
      let st ← get
      let r ← forIn [0:a.size + b.size] ((none, #[y], 0, 1, gallopOf st) : OS) fun _ c => oLo a b c
      match r.1 with
      | some q => pure q
      | none => liftM (unsupported "internal:list.sort.merge-bound" : Sem (Array Keyed))) := by
  rw [mLo_eq]
  unfold oLo
  refine congrArg (bind _) (funext fun _ => ?_)
  refine congrArg (bind _) (funext fun y => ?_)
  refine ite_congr rfl (fun _ => rfl) (fun _ => ?_)
  refine ite_congr rfl (fun _ => rfl) (fun _ => ?_)
  refine congrArg (bind _) (funext fun st => ?_)
  refine congr (congrArg bind (congrArg (forIn _ _) (funext fun _ => funext fun c => ?_))) ?_
  · refine congr (congrArg bind (congrArg (forIn _ _) (funext fun _ => funext fun d => ?_))) ?_
    · unfold f1
      rfl
    · funext r
      obtain ⟨r1, r2⟩ := r
      cases r1 with
      | some q => rfl
      | none =>
        refine congrArg (bind _) (funext fun _ => ?_)
        refine congr (congrArg bind (congrArg (forIn _ _) (funext fun _ => funext fun d => ?_))) ?_
        ·
          unfold g1
          refine ite_congr rfl (fun _ => ?_) (fun _ => ?_)
          all_goals
            refine congrArg (bind _) (funext fun _ => ?_)
            refine congrArg (bind _) (funext fun y => ?_)
            refine congrArg (bind _) (funext fun r => ?_)
            cases r with
            | none => rfl
            | some k =>
              refine ite_congr rfl (fun _ => ?_) (fun _ => ?_)
              · refine ite_congr rfl (fun _ => rfl) (fun _ => ?_)
                refine ite_congr rfl (fun _ => rfl) (fun _ => ?_)
                unfold g2
                rfl
              · unfold g2
                rfl
        · funext e; obtain ⟨e1, e2⟩ := e; cases e1 <;> rfl
  · funext e; obtain ⟨e1, e2⟩ := e; cases e1 <;> rfl
end ZS

namespace ZS
open PySem PyProof.Rows
/-- comparisons go by ranks -/
def LtOk (M : Model) (A : Around) (E : Value → Shared → Prop) (s : Shared) (kd : SortKind) (rk : Keyed → Nat) (S : Keyed → Prop) : Prop :=
  ∀ (x y : Keyed) (st : SortSt) (Q : Option Bool → SortSt → Prop), S x → S y → kindOf st = kd → Q (some (decide (rk x < rk y))) st → wpS M A E s (lt' x y) Q st
structure Keep (st st' : SortSt) : Prop where
  k : kindOf st' = kindOf st
  a : arrOf st' = arrOf st
  p : pendingOf st' = pendingOf st
  f : failedOf st' = failedOf st
theorem Keep.rfl' {st : SortSt} : Keep st st := ⟨rfl, rfl, rfl, rfl⟩
theorem Keep.g {st st' : SortSt} (h : Keep st st') (g : Nat) : Keep st (SortSt.mk' (kindOf st') (arrOf st') (pendingOf st') g (failedOf st')) := ⟨h.k, h.a, h.p, h.f⟩
section
variable {rk : Keyed → Nat}
abbrev Srt (rk : Keyed → Nat) (l : List Keyed) : Prop := l.Pairwise fun x y => rk x ≤ rk y
structure MS (rk : Keyed → Nat) (a b out : List Keyed) (i j : Nat) : Prop where
  perm : out.Perm (a.take i ++ b.take j)
  srt : Srt rk out
  le : ∀ x ∈ out, (∀ y ∈ a.drop i, rk x ≤ rk y) ∧ ∀ y ∈ b.drop j, rk x ≤ rk y
def Res (rk : Keyed → Nat) (a b r : List Keyed) : Prop := r.Perm (a ++ b) ∧ Srt rk r
theorem MS.addA {a b out : List Keyed} {i j k : Nat} (h : MS rk a b out i j) (sa : Srt rk a) (hc : ∀ y ∈ (a.drop i).take k, ∀ z ∈ b.drop j, rk y ≤ rk z) : MS rk a b (out ++ (a.drop i).take k) (i + k) j := by
  have sd : Srt rk (a.drop i) := List.Pairwise.sublist (List.drop_sublist _ _) sa
  have split : a.drop i = (a.drop i).take k ++ a.drop (i + k) := by rw [← List.drop_drop]; exact (List.take_append_drop k (a.drop i)).symm
  refine ⟨?_, ?_, fun x hx => ?_⟩
  · rw [List.take_add]
    refine (h.perm.append_right _).trans ?_
    rw [List.append_assoc, List.append_assoc]
    exact List.Perm.append_left _ List.perm_append_comm
  · refine List.pairwise_append.mpr ⟨h.srt, List.Pairwise.sublist (List.take_sublist _ _) sd, fun x hx y hy => (h.le x hx).1 y (List.mem_of_mem_take hy)⟩
  · rcases List.mem_append.mp hx with hx | hx
    · refine ⟨fun y hy => (h.le x hx).1 y ?_, (h.le x hx).2⟩
      rw [split]
      exact List.mem_append_right _ hy
    · refine ⟨fun y hy => ?_, hc x hx⟩
      rw [split] at sd
      exact (List.pairwise_append.mp sd).2.2 x hx y hy
theorem MS.addB {a b out : List Keyed} {i j k : Nat} (h : MS rk a b out i j) (sb : Srt rk b) (hc : ∀ y ∈ (b.drop j).take k, ∀ z ∈ a.drop i, rk y ≤ rk z) : MS rk a b (out ++ (b.drop j).take k) i (j + k) := by
  have sd : Srt rk (b.drop j) := List.Pairwise.sublist (List.drop_sublist _ _) sb
  have split : b.drop j = (b.drop j).take k ++ b.drop (j + k) := by rw [← List.drop_drop]; exact (List.take_append_drop k (b.drop j)).symm
  refine ⟨?_, ?_, fun x hx => ?_⟩
  · rw [List.take_add, ← List.append_assoc]
    exact h.perm.append_right _
  · refine List.pairwise_append.mpr ⟨h.srt, List.Pairwise.sublist (List.take_sublist _ _) sd, fun x hx y hy => (h.le x hx).2 y (List.mem_of_mem_take hy)⟩
  · rcases List.mem_append.mp hx with hx | hx
    · refine ⟨(h.le x hx).1, fun y hy => (h.le x hx).2 y ?_⟩
      rw [split]
      exact List.mem_append_right _ hy
    · refine ⟨hc x hx, fun y hy => ?_⟩
      rw [split] at sd
      exact (List.pairwise_append.mp sd).2.2 x hx y hy
theorem MS.all {a b out : List Keyed} {i j : Nat} (h : MS rk a b out i j) (h1 : a.length ≤ i) (h2 : b.length ≤ j) : Res rk a b out := by
  have := h.perm
  rw [List.take_of_length_le h1, List.take_of_length_le h2] at this
  exact ⟨this, h.srt⟩
theorem drop_all {l : List Keyed} (i : Nat) : (l.drop i).take l.length = l.drop i := List.take_of_length_le (by rw [List.length_drop]; omega)
theorem MS.done {a b out : List Keyed} {i j : Nat} (h : MS rk a b out i j) (sa : Srt rk a) (sb : Srt rk b) (e : a.length ≤ i ∨ b.length ≤ j) : Res rk a b (out ++ a.drop i ++ b.drop j) := by
  have h1 := h.addA (k := a.length) sa fun y hy z hz => by
    rcases e with e | e
    · rw [List.drop_of_length_le e] at hy; simp at hy
    · rw [List.drop_of_length_le e] at hz; simp at hz
  have h2 := h1.addB (k := b.length) sb fun y hy z hz => by
    rw [List.drop_of_length_le (by omega)] at hz; simp at hz
  rw [drop_all, drop_all] at h2
  exact h2.all (by omega) (by omega)
theorem MS.last {a b out : List Keyed} {i j : Nat} (h : MS rk a b out i j) (sa : Srt rk a) (sb : Srt rk b) (e : ∀ y ∈ b.drop j, ∀ z ∈ a.drop i, rk y ≤ rk z) : Res rk a b (out ++ b.drop j ++ a.drop i) := by
  have h1 := h.addB (k := b.length) sb fun y hy z hz => e y (List.mem_of_mem_take hy) z hz
  have h2 := h1.addA (k := a.length) sa fun y hy z hz => by
    rw [List.drop_of_length_le (by omega)] at hz; simp at hz
  rw [drop_all, drop_all] at h2
  exact h2.all (by omega) (by omega)
theorem ext_all (a : Array Keyed) (i : Nat) : (a.extract i a.size).toList = a.toList.drop i := by
  rw [Array.toList_extract, List.extract_eq_drop_take]
  exact List.take_of_length_le (by rw [List.length_drop, Array.length_toList]; exact Nat.le_refl _)
theorem ext_part (a : Array Keyed) (i k : Nat) : (a.extract i (i + k)).toList = (a.toList.drop i).take k := by
  rw [Array.toList_extract, List.extract_eq_drop_take, Nat.add_sub_cancel_left]
theorem drop_one {l : List Keyed} {i : Nat} {y : Keyed} (h : l[i]? = some y) : (l.drop i).take 1 = [y] := by
  obtain ⟨hl, e⟩ := List.getElem?_eq_some_iff.mp h
  rw [List.drop_eq_getElem_cons hl, List.take_succ_cons, List.take_zero, e]
theorem drop_mem {l : List Keyed} {i : Nat} {y : Keyed} (h : l[i]? = some y) (s : Srt rk l) : ∀ z ∈ l.drop i, rk y ≤ rk z := by
  obtain ⟨hl, e⟩ := List.getElem?_eq_some_iff.mp h
  intro z hz
  have sd : Srt rk (l.drop i) := List.Pairwise.sublist (List.drop_sublist _ _) s
  rw [List.drop_eq_getElem_cons hl, e] at sd hz
  rcases List.mem_cons.mp hz with rfl | hz
  · exact Nat.le_refl _
  · exact (List.pairwise_cons.mp sd).1 z hz
/-- by places -/
theorem srt_at {l : List Keyed} (s : Srt rk l) {i j : Nat} {x y : Keyed} (hij : i ≤ j) (hx : l[i]? = some x) (hy : l[j]? = some y) : rk x ≤ rk y := by
  refine drop_mem hx s y ?_
  rw [List.mem_iff_getElem?]
  exact ⟨j - i, by rw [List.getElem?_drop, show i + (j - i) = j by omega]; exact hy⟩
theorem mem_part {l : List Keyed} {i k : Nat} {y : Keyed} (h : y ∈ (l.drop i).take k) : ∃ j, j < k ∧ l[i + j]? = some y := by
  obtain ⟨j, hj⟩ := List.mem_iff_getElem?.mp h
  rw [List.getElem?_take] at hj
  split at hj
  · next hlt => exact ⟨j, hlt, by rw [List.getElem?_drop] at hj; exact hj⟩
  · cases hj
theorem mem_dropI {l : List Keyed} {i : Nat} {y : Keyed} (h : y ∈ l.drop i) : ∃ j, l[i + j]? = some y := by
  obtain ⟨j, hj⟩ := List.mem_iff_getElem?.mp h
  exact ⟨j, by rw [List.getElem?_drop] at hj; exact hj⟩
end
section
variable {M : Model} {A : Around} {E : Value → Shared → Prop} {s : Shared} {kd : SortKind} {rk : Keyed → Nat} {S : Keyed → Prop}
theorem wp_elem {ar : Array Keyed} {i : Nat} {p : Keyed} {st : SortSt} {Q : Keyed → SortSt → Prop} (h : ar[i]? = some p) (q : Q p st) : wpS M A E s (elem' ar i) Q st := by
  rw [elem'_eq, h]
  exact wpS_pure q
theorem wp_bey {lf : Bool} {ky p : Keyed} {ar : Array Keyed} {b0 i : Nat} {st : SortSt} {Q : Option Bool → SortSt → Prop} (L : LtOk M A E s kd rk S) (hk : kindOf st = kd) (hp : ar[b0 + i]? = some p) (Sp : S p) (Sk : S ky)
    (q : Q (some (if lf = true then decide (rk p < rk ky) else !decide (rk ky < rk p))) st) : wpS M A E s (bey lf ky ar b0 i) Q st := by
  unfold bey
  refine wpS_bind (wp_elem hp ?_)
  cases lf with
  | true => exact L p ky st _ Sp Sk hk q
  | false => exact wpS_bind (L ky p st _ Sk Sp hk (wpS_pure q))
/-- gallop over a sorted part: how many are below the key (left), or not above it -/
theorem wp_gal2 {lf : Bool} {ky : Keyed} {ar : Array Keyed} {b0 n h0 : Nat} {st : SortSt} {Q : Option Nat → SortSt → Prop} (L : LtOk M A E s kd rk S) (hk : kindOf st = kd) (hh : h0 < n) (hsz : b0 + n ≤ ar.size) (Sa : ∀ (i : Nat) p, ar[i]? = some p → S p) (Sk : S ky)
    (srt : ∀ (i j : Nat) p q, i ≤ j → j < n → ar[b0 + i]? = some p → ar[b0 + j]? = some q → rk p ≤ rk q)
    (h : ∀ k, k ≤ n → (∀ (i : Nat) p, i < k → ar[b0 + i]? = some p → if lf = true then rk p < rk ky else rk p ≤ rk ky) → (∀ (i : Nat) p, k ≤ i → i < n → ar[b0 + i]? = some p → if lf = true then rk ky ≤ rk p else rk ky < rk p) → Q (some k) st) :
    wpS M A E s (gal lf ky ar b0 n h0) Q st := by
  have get : ∀ i, i < n → ar[b0 + i]? = some (ar.getD (b0 + i) (Value.none, Value.none)) := fun i hi => by
    rw [Array.getD_eq_getD_getElem?, Array.getElem?_eq_getElem (by omega)]
    rfl
  refine wp_gal (bd := fun i => if lf = true then decide (rk (ar.getD (b0 + i) (Value.none, Value.none)) < rk ky) else !decide (rk ky < rk (ar.getD (b0 + i) (Value.none, Value.none)))) hh (fun i R hi r => wp_bey L hk (get i hi) (Sa _ _ (get i hi)) Sk r) ?_ ?_
  · intro i j hij hj hb
    have := srt i j _ _ hij hj (get i (by omega)) (get j hj)
    cases lf with
    | true =>
      simp only [if_true, decide_eq_true_eq] at hb ⊢
      omega
    | false =>
      simp only [Bool.false_eq_true, if_false, Bool.not_eq_true', decide_eq_false_iff_not] at hb ⊢
      omega
  · intro k hk' h1 h2
    refine h k hk' (fun i p hi hp => ?_) (fun i p h3 h4 hp => ?_)
    · have e := get i (by omega)
      rw [hp] at e
      cases e
      have := h1 i hi
      cases lf with
      | true => simpa using this
      | false => simpa using this
    · have e := get i h4
      rw [hp] at e
      cases e
      have := h2 i h3 h4
      cases lf with
      | true => simpa using this
      | false => simpa using this
theorem wp_setG {g : Nat} {st : SortSt} {Q : Unit → SortSt → Prop} (q : Q () (SortSt.mk' (kindOf st) (arrOf st) (pendingOf st) g (failedOf st))) : wpS M A E s (setG g) Q st := wpS_modify q
end
end ZS

namespace ZS
open PySem PyProof.Rows
section
variable {M : Model} {A : Around} {E : Value → Shared → Prop} {s : Shared} {kd : SortKind} {rk : Keyed → Nat} {S : Keyed → Prop} {a b : Array Keyed}
/-- what merge-lo is handed -/
structure LoOk (rk : Keyed → Nat) (S : Keyed → Prop) (a b : Array Keyed) : Prop where
  sa : Srt rk a.toList
  sb : Srt rk b.toList
  Sa : ∀ (i : Nat) p, a[i]? = some p → S p
  Sb : ∀ (i : Nat) p, b[i]? = some p → S p
  pa : 0 < a.size
  pb : 0 < b.size
  first : ∀ p, b[0]? = some p → ∀ z ∈ a.toList, rk p ≤ rk z
  last : ∀ p, a[a.size - 1]? = some p → ∀ z ∈ b.toList, rk z ≤ rk p
theorem LoOk.lastRes (h : LoOk rk S a b) {out : Array Keyed} {i j : Nat} (m : MS rk a.toList b.toList out.toList i j) (e : i + 1 = a.size) : Res rk a.toList b.toList (lastA a b out i j).toList := by
  unfold lastA
  rw [Array.toList_append, Array.toList_append, ext_all, ext_all]
  refine m.last h.sa h.sb fun y hy z hz => ?_
  obtain ⟨k, hk⟩ := mem_dropI hz
  have hk' : i + k < a.toList.length := (List.getElem?_eq_some_iff.mp hk).1
  rw [Array.length_toList] at hk'
  have k0 : k = 0 := by omega
  subst k0
  refine h.last z ?_ y (List.mem_of_mem_drop hy)
  rw [← Array.getElem?_toList, show a.size - 1 = i + 0 by omega]
  exact hk
theorem LoOk.doneRes (h : LoOk rk S a b) {out : Array Keyed} {i j : Nat} (m : MS rk a.toList b.toList out.toList i j) (e : a.size ≤ i ∨ b.size ≤ j) : Res rk a.toList b.toList (dn a b out i j).toList := by
  unfold dn
  rw [Array.toList_append, Array.toList_append, ext_all, ext_all]
  exact m.done h.sa h.sb (by rw [Array.length_toList, Array.length_toList]; exact e)
/-- at work: two of a and one of b are left at least -/
structure LI (rk : Keyed → Nat) (a b out : Array Keyed) (i j : Nat) : Prop where
  m : MS rk a.toList b.toList out.toList i j
  i : i + 1 < a.size
  j : j < b.size
theorem MS.pushB' {out : Array Keyed} {i j : Nat} (m : MS rk a.toList b.toList out.toList i j) (H : LoOk rk S a b) {y : Keyed} (hy : b[j]? = some y) (hc : ∀ z ∈ a.toList.drop i, rk y ≤ rk z) : MS rk a.toList b.toList (out.push y).toList i (j + 1) := by
  have hy' : b.toList[j]? = some y := by rw [Array.getElem?_toList]; exact hy
  have := m.addB (k := 1) H.sb (by rw [drop_one hy']; intro w hw; rw [List.mem_singleton.mp hw]; exact hc)
  rw [drop_one hy'] at this
  rw [Array.toList_push]
  exact this
theorem MS.pushA' {out : Array Keyed} {i j : Nat} (m : MS rk a.toList b.toList out.toList i j) (H : LoOk rk S a b) {y : Keyed} (hy : a[i]? = some y) (hc : ∀ z ∈ b.toList.drop j, rk y ≤ rk z) : MS rk a.toList b.toList (out.push y).toList (i + 1) j := by
  have hy' : a.toList[i]? = some y := by rw [Array.getElem?_toList]; exact hy
  have := m.addA (k := 1) H.sa (by rw [drop_one hy']; intro w hw; rw [List.mem_singleton.mp hw]; exact hc)
  rw [drop_one hy'] at this
  rw [Array.toList_push]
  exact this
theorem dropI_le {l : Array Keyed} {i : Nat} {y : Keyed} (srt : Srt rk l.toList) (hy : l[i]? = some y) : ∀ z ∈ l.toList.drop i, rk y ≤ rk z := drop_mem (by rw [Array.getElem?_toList]; exact hy) srt
/-- how a step ends -/
def StepOk (rk : Keyed → Nat) (a b : Array Keyed) (lo : Nat) (st : SortSt) (r : Option (Array Keyed)) (out : Array Keyed) (i j : Nat) (st' : SortSt) : Prop :=
  Keep st st' ∧ match r with
  | some q => Res rk a.toList b.toList q.toList
  | none => LI rk a b out i j ∧ lo < i + j
theorem wp_f1 {out : Array Keyed} {i j ca cb mg : Nat} {st st' : SortSt} {Q : ForInStep FS → SortSt → Prop} (L : LtOk M A E s kd rk S) (H : LoOk rk S a b) (hk : kindOf st = kd) (K : Keep st st') (I : LI rk a b out i j)
    (h : ∀ (d : Bool) (c : FS), StepOk rk a b (i + j) st c.1 c.2.1 c.2.2.1 c.2.2.2.1 st' → (d = false → c.1 = none) → Q (if d = true then ForInStep.done c else ForInStep.yield c) st') : wpS M A E s (f1 a b out i j ca cb mg) Q st' := by
  have hi : i < a.size := by have := I.i; omega
  obtain ⟨y, hy⟩ : ∃ y, b[j]? = some y := ⟨_, Array.getElem?_eq_getElem I.j⟩
  obtain ⟨z, hz⟩ : ∃ z, a[i]? = some z := ⟨_, Array.getElem?_eq_getElem hi⟩
  unfold f1
  refine wpS_bind (wp_elem hy (wpS_bind (wp_elem hz (wpS_bind (L y z st' _ (H.Sb _ _ hy) (H.Sa _ _ hz) (K.k.trans hk) ?_)))))
  dsimp only
  by_cases w : rk y < rk z
  · rw [decide_eq_true w, if_pos rfl]
    have m := I.m.pushB' H hy fun u hu => Nat.le_trans (Nat.le_of_lt w) (dropI_le H.sa hz u hu)
    refine wpS_bind (wp_elem hy ?_)
    by_cases e : j + 1 = b.size
    · rw [if_pos (by rw [e]; exact beq_self_eq_true _)]
      exact wpS_pure (h true _ ⟨K, H.doneRes m (.inr (by omega))⟩ (fun z => nomatch z))
    · rw [if_neg (by simpa using e)]
      have I2 : LI rk a b (out.push y) i (j + 1) := ⟨m, I.i, by have := I.j; omega⟩
      split
      · exact wpS_pure (h true _ ⟨K, I2, by dsimp only; omega⟩ (fun z => nomatch z))
      · exact wpS_pure (h false _ ⟨K, I2, by dsimp only; omega⟩ (fun _ => rfl))
  · rw [decide_eq_false w, if_neg (by simp)]
    have m := I.m.pushA' H hz fun u hu => Nat.le_trans (by omega) (dropI_le H.sb hy u hu)
    refine wpS_bind (wp_elem hz ?_)
    by_cases e : i + 1 + 1 = a.size
    · rw [if_pos (by rw [e]; exact beq_self_eq_true _)]
      exact wpS_pure (h true _ ⟨K, H.lastRes m e⟩ (fun z => nomatch z))
    · rw [if_neg (by simpa using e)]
      have I2 : LI rk a b (out.push z) (i + 1) j := ⟨m, by have := I.i; omega, I.j⟩
      split
      · exact wpS_pure (h true _ ⟨K, I2, by dsimp only; omega⟩ (fun z => nomatch z))
      · exact wpS_pure (h false _ ⟨K, I2, by dsimp only; omega⟩ (fun _ => rfl))
theorem wp_g3 {out : Array Keyed} {i j mg ca cb lo : Nat} {st st' : SortSt} {Q : ForInStep GS → SortSt → Prop} (H : LoOk rk S a b) (K : Keep st st') (I : LI rk a b out i j) (hc : ∀ z, a[i]? = some z → ∀ u ∈ b.toList.drop j, rk z ≤ rk u) (hl : lo ≤ i + j)
    (h : ∀ (d : Bool) (c : GS), StepOk rk a b lo st c.1 c.2.1 c.2.2.1 c.2.2.2.1 st' → (d = false → c.1 = none) → Q (if d = true then ForInStep.done c else ForInStep.yield c) st') : wpS M A E s (g3 a b out i j mg ca cb) Q st' := by
  have hi : i < a.size := by have := I.i; omega
  obtain ⟨z, hz⟩ : ∃ z, a[i]? = some z := ⟨_, Array.getElem?_eq_getElem hi⟩
  unfold g3
  have m := I.m.pushA' H hz (hc z hz)
  refine wpS_bind (wp_elem hz ?_)
  by_cases e : i + 1 + 1 = a.size
  · rw [if_pos (by rw [e]; exact beq_self_eq_true _)]
    exact wpS_pure (h true _ ⟨K, H.lastRes m e⟩ (fun z => nomatch z))
  · rw [if_neg (by simpa using e)]
    have I2 : LI rk a b (out.push z) (i + 1) j := ⟨m, by have := I.i; omega, I.j⟩
    split
    · exact wpS_pure (h true _ ⟨K, I2, by dsimp only; omega⟩ (fun z => nomatch z))
    · exact wpS_pure (h false _ ⟨K, I2, by dsimp only; omega⟩ (fun _ => rfl))
theorem wp_g2 {out : Array Keyed} {i j mg ca cb lo : Nat} {st st' : SortSt} {Q : ForInStep GS → SortSt → Prop} (L : LtOk M A E s kd rk S) (H : LoOk rk S a b) (hk : kindOf st = kd) (K : Keep st st') (I : LI rk a b out i j) (hc : ∀ y, b[j]? = some y → ∀ u ∈ a.toList.drop i, rk y ≤ rk u) (hl : lo ≤ i + j)
    (h : ∀ (d : Bool) (c : GS), StepOk rk a b lo st c.1 c.2.1 c.2.2.1 c.2.2.2.1 st' → (d = false → c.1 = none) → Q (if d = true then ForInStep.done c else ForInStep.yield c) st') : wpS M A E s (g2 a b out i j mg ca cb) Q st' := by
  have hi : i < a.size := by have := I.i; omega
  obtain ⟨y, hy⟩ : ∃ y, b[j]? = some y := ⟨_, Array.getElem?_eq_getElem I.j⟩
  obtain ⟨z, hz⟩ : ∃ z, a[i]? = some z := ⟨_, Array.getElem?_eq_getElem hi⟩
  unfold g2
  have m := I.m.pushB' H hy (hc y hy)
  refine wpS_bind (wp_elem hy ?_)
  by_cases e : j + 1 = b.size
  · rw [if_pos (by rw [e]; exact beq_self_eq_true _)]
    exact wpS_pure (h true _ ⟨K, H.doneRes m (.inr (by omega))⟩ (fun z => nomatch z))
  rw [if_neg (by simpa using e)]
  have hj : j + 1 < b.size := by have := I.j; omega
  refine wpS_bind (wp_elem hz (wpS_bind (wp_gal2 L (K.k.trans hk) (by omega) (by omega) H.Sb (H.Sa _ _ hz) (fun p q x w h1 h2 h3 h4 => srt_at H.sb (i := j + 1 + p) (j := j + 1 + q) (by omega) (by rw [Array.getElem?_toList]; exact h3) (by rw [Array.getElem?_toList]; exact h4)) fun k k1 k2 k3 => ?_)))
  dsimp only
  have after : ∀ u ∈ b.toList.drop (j + 1 + k), rk z ≤ rk u := fun u hu => by
    obtain ⟨p, hp⟩ := mem_dropI hu
    rw [Array.getElem?_toList] at hp
    have hlt : j + 1 + k + p < b.size := (Array.getElem?_eq_some_iff.mp hp).1
    have := k3 (k + p) u (by omega) (by omega) (by rw [show j + 1 + (k + p) = j + 1 + k + p by omega]; exact hp)
    simpa using this
  by_cases pk : k > 0
  · rw [if_pos pk]
    have m2 : MS rk a.toList b.toList (out.push y ++ b.extract (j + 1) (j + 1 + k)).toList i (j + 1 + k) := by
      rw [Array.toList_append, ext_part]
      refine m.addB H.sb fun u hu w hw => ?_
      obtain ⟨p, hp1, hp⟩ := mem_part hu
      rw [Array.getElem?_toList] at hp
      have := k2 p u hp1 hp
      simp only [if_true] at this
      exact Nat.le_trans (Nat.le_of_lt this) (dropI_le H.sa hz w hw)
    by_cases e2 : j + 1 + k = b.size
    · rw [if_pos (by rw [e2]; exact beq_self_eq_true _)]
      exact wpS_pure (h true _ ⟨K, H.doneRes m2 (.inr (by omega))⟩ (fun z => nomatch z))
    · rw [if_neg (by simpa using e2)]
      refine wp_g3 H K ⟨m2, I.i, by omega⟩ (fun z' hz' => ?_) (by omega) h
      rw [hz] at hz'
      cases hz'
      exact after
  · rw [if_neg pk]
    have k0 : k = 0 := by omega
    subst k0
    refine wp_g3 H K ⟨m, I.i, by omega⟩ (fun z' hz' => ?_) (by omega) h
    rw [hz] at hz'
    cases hz'
    exact after
theorem wp_g1 {out : Array Keyed} {i j mg ca cb : Nat} {st st' : SortSt} {Q : ForInStep GS → SortSt → Prop} (L : LtOk M A E s kd rk S) (H : LoOk rk S a b) (hk : kindOf st = kd) (K : Keep st st') (I : LI rk a b out i j)
    (h : ∀ (d : Bool) (c : GS) (st2 : SortSt), StepOk rk a b (i + j) st c.1 c.2.1 c.2.2.1 c.2.2.2.1 st2 → (d = false → c.1 = none) → Q (if d = true then ForInStep.done c else ForInStep.yield c) st2) : wpS M A E s (g1 a b out i j mg ca cb) Q st' := by
  have hi : i < a.size := by have := I.i; omega
  obtain ⟨y, hy⟩ : ∃ y, b[j]? = some y := ⟨_, Array.getElem?_eq_getElem I.j⟩
  unfold g1
  refine wpS_bind (wp_setG (wpS_bind (wp_elem hy ?_)))
  have K2 := K.g mg
  revert K2
  generalize SortSt.mk' (kindOf st') (arrOf st') (pendingOf st') mg (failedOf st') = st2
  intro K2
  refine wpS_bind (wp_gal2 L (K2.k.trans hk) (by omega) (by omega) H.Sa (H.Sb _ _ hy) (fun p q x w h1 h2 h3 h4 => srt_at H.sa (i := i + p) (j := i + q) (by omega) (by rw [Array.getElem?_toList]; exact h3) (by rw [Array.getElem?_toList]; exact h4)) fun k k1 k2 k3 => ?_)
  dsimp only
  have after : ∀ u ∈ a.toList.drop (i + k), rk y ≤ rk u := fun u hu => by
    obtain ⟨p, hp⟩ := mem_dropI hu
    rw [Array.getElem?_toList] at hp
    have hlt : i + k + p < a.size := (Array.getElem?_eq_some_iff.mp hp).1
    have := k3 (k + p) u (by omega) (by omega) (by rw [show i + (k + p) = i + k + p by omega]; exact hp)
    simp at this
    omega
  by_cases pk : k > 0
  · rw [if_pos pk]
    have m2 : MS rk a.toList b.toList (out ++ a.extract i (i + k)).toList (i + k) j := by
      rw [Array.toList_append, ext_part]
      refine I.m.addA H.sa fun u hu w hw => ?_
      obtain ⟨p, hp1, hp⟩ := mem_part hu
      rw [Array.getElem?_toList] at hp
      have := k2 p u hp1 hp
      simp at this
      exact Nat.le_trans this (dropI_le H.sb hy w hw)
    by_cases e1 : i + k + 1 = a.size
    · rw [if_pos (by rw [e1]; exact beq_self_eq_true _)]
      exact wpS_pure (h true _ _ ⟨K2, H.lastRes m2 e1⟩ (fun z => nomatch z))
    rw [if_neg (by simpa using e1)]
    by_cases e2 : i + k = a.size
    · rw [if_pos (by rw [e2]; exact beq_self_eq_true _)]
      exact wpS_pure (h true _ _ ⟨K2, H.doneRes m2 (.inl (by omega))⟩ (fun z => nomatch z))
    rw [if_neg (by simpa using e2)]
    refine wp_g2 L H hk K2 ⟨m2, by omega, I.j⟩ (fun y' hy' => ?_) (by omega) fun d c x1 x2 => h d c _ x1 x2
    rw [hy] at hy'
    cases hy'
    exact after
  · rw [if_neg pk]
    have k0 : k = 0 := by omega
    subst k0
    refine wp_g2 L H hk K2 I (fun y' hy' => ?_) (Nat.le_refl _) fun d c x1 x2 => h d c _ x1 x2
    rw [hy] at hy'
    cases hy'
    exact after
theorem wp_mLo {st : SortSt} {Q : Array Keyed → SortSt → Prop} (L : LtOk M A E s kd rk S) (H : LoOk rk S a b) (hk : kindOf st = kd) (h : ∀ r st', Keep st st' → Res rk a.toList b.toList r.toList → Q r st') (hr : ∀ x, wpAny M A (rule x) (fun _ s' => s' = s) E s) : wpS M A E s (mLo a b) Q st := by
  rw [mLo_eq2]
  obtain ⟨y, hy⟩ : ∃ y, b[0]? = some y := ⟨_, Array.getElem?_eq_getElem H.pb⟩
  have rl : ∀ {x : String} {R : Unit → SortSt → Prop} {st' : SortSt}, R () st' → wpS M A E s (liftM (rule x) : StateT SortSt Sem Unit) R st' := fun {x R st'} q => wpS_lift (wpAny_mono (hr x) (fun _ _ z => ⟨z, q⟩) fun _ _ z => z)
  refine wpS_bind (rl (wpS_bind (wp_elem hy ?_)))
  have m0 : MS rk a.toList b.toList (#[] : Array Keyed).toList 0 0 := ⟨by simp, List.Pairwise.nil, fun x hx => by simp at hx⟩
  have m1 : MS rk a.toList b.toList (#[y] : Array Keyed).toList 0 1 := m0.pushB' H hy fun z hz => H.first y hy z (by simpa using hz)
  by_cases e1 : 1 = b.size
  · rw [if_pos (by rw [← e1]; rfl)]
    exact wpS_pure (h _ _ .rfl' (H.doneRes m1 (.inr (by omega))))
  rw [if_neg (by simpa using e1)]
  by_cases e2 : 0 + 1 = a.size
  · rw [if_pos (by rw [← e2]; rfl)]
    exact wpS_pure (h _ _ .rfl' (H.lastRes m1 e2))
  rw [if_neg (by simpa using e2)]
  refine wpS_bind (wpS_get ?_)
  have pa := H.pa
  have pb := H.pb
  refine wpS_bind (wpS_mono (wpS_forRange (I := fun x (c : OS) st' => c.1 = none ∧ Keep st st' ∧ LI rk a b c.2.1 c.2.2.1 c.2.2.2.1 ∧ x < c.2.2.1 + c.2.2.2.1) (Q := fun (c : OS) st' => ∃ q, c.1 = some q ∧ Keep st st' ∧ Res rk a.toList b.toList q.toList) ?_ ?_ ⟨rfl, .rfl', ⟨m1, by dsimp only; omega, by dsimp only; omega⟩, by show 0 < 0 + 1; omega⟩) ?_)
  · rintro x ⟨c1, out, i, j, mg⟩ st1 _ hx ⟨rfl, K1, I1, px⟩
    unfold oLo
    dsimp only at I1 px ⊢
    refine wpS_bind (wpS_mono (wpS_forRange (I := fun x (c : FS) st' => c.1 = none ∧ Keep st st' ∧ LI rk a b c.2.1 c.2.2.1 c.2.2.2.1 ∧ i + j + x ≤ c.2.2.1 + c.2.2.2.1) (Q := fun (c : FS) st' => StepOk rk a b (i + j) st c.1 c.2.1 c.2.2.1 c.2.2.2.1 st') ?_ ?_ ⟨rfl, K1, I1, Nat.le_refl _⟩) ?_)
    · rintro x2 ⟨d1, out2, i2, j2, ca, cb⟩ st2 _ hx2 ⟨rfl, K2, I2, p2⟩
      dsimp only at I2 p2 ⊢
      refine wp_f1 L H hk K2 I2 fun d c hs hn => ?_
      cases d with
      | true =>
        show StepOk _ _ _ _ _ _ _ _ _ _
        refine ⟨hs.1, ?_⟩
        have h2 := hs.2
        cases e : c.1 with
        | some q => rw [e] at h2; exact h2
        | none => rw [e] at h2; exact ⟨h2.1, by have := h2.2; omega⟩
      | false =>
        have h2 := hs.2
        rw [hn rfl] at h2
        exact ⟨hn rfl, hs.1, h2.1, by have := h2.2; omega⟩
    · rintro ⟨c1, out2, i2, j2, ca, cb⟩ st2 ⟨rfl, K2, I2, p2⟩
      dsimp only at I2 p2 ⊢
      have := I2.i
      have := I2.j
      omega
    · rintro ⟨c1, out2, i2, j2, ca, cb⟩ st2 ⟨K2, h2⟩
      cases c1 with
      | some q => exact wpS_pure ⟨q, rfl, K2, h2⟩
      | none =>
        obtain ⟨I2, p2⟩ := h2
        dsimp only at I2 p2 ⊢
        refine wpS_bind (rl ?_)
        refine wpS_bind (wpS_mono (wpS_forRange (I := fun _ (c : GS) st' => c.1 = none ∧ Keep st st' ∧ LI rk a b c.2.1 c.2.2.1 c.2.2.2.1 ∧ i + j < c.2.2.1 + c.2.2.2.1) (Q := fun (c : GS) st' => StepOk rk a b (i + j) st c.1 c.2.1 c.2.2.1 c.2.2.2.1 st') ?_ ?_ ⟨rfl, K2, I2, p2⟩) ?_)
        · rintro x3 ⟨d1, out3, i3, j3, mg3, ca3, cb3⟩ st3 _ hx3 ⟨rfl, K3, I3, p3⟩
          dsimp only at I3 p3 ⊢
          have go : ∀ mg', wpS M A E s (g1 a b out3 i3 j3 mg' ca3 cb3) (fun r st' => match r with | .done c' => StepOk rk a b (i + j) st c'.1 c'.2.1 c'.2.2.1 c'.2.2.2.1 st' | .yield c' => c'.1 = none ∧ Keep st st' ∧ LI rk a b c'.2.1 c'.2.2.1 c'.2.2.2.1 ∧ i + j < c'.2.2.1 + c'.2.2.2.1) st3 := fun mg' => by
            refine wp_g1 L H hk K3 I3 fun d c st4 hs hn => ?_
            cases d with
            | true =>
              show StepOk _ _ _ _ _ _ _ _ _ _
              refine ⟨hs.1, ?_⟩
              have h2 := hs.2
              cases e : c.1 with
              | some q => rw [e] at h2; exact h2
              | none => rw [e] at h2; exact ⟨h2.1, by have := h2.2; omega⟩
            | false =>
              have h2 := hs.2
              rw [hn rfl] at h2
              exact ⟨hn rfl, hs.1, h2.1, by have := h2.2; omega⟩
          split
          · exact wpS_mono (go _) fun r st' h => by cases r <;> exact h
          · exact wpS_mono (go _) fun r st' h => by cases r <;> exact h
        · rintro ⟨c1, out3, i3, j3, mg3, ca3, cb3⟩ st3 ⟨rfl, K3, I3, p3⟩
          exact ⟨K3, I3, p3⟩
        · rintro ⟨c1, out3, i3, j3, mg3, ca3, cb3⟩ st3 ⟨K3, h3⟩
          cases c1 with
          | some q => exact wpS_pure ⟨q, rfl, K3, h3⟩
          | none =>
            obtain ⟨I3, p3⟩ := h3
            refine wpS_bind (wp_setG (wpS_pure ⟨rfl, K3.g _, I3, ?_⟩))
            dsimp only at p3 ⊢
            omega
  · rintro ⟨c1, out, i, j, mg⟩ st1 ⟨rfl, K1, I1, px⟩
    have h1 := I1.i
    have h2 := I1.j
    dsimp only at h1 h2 px
    omega
  · rintro ⟨c1, out, i, j, mg⟩ st1 ⟨q, e, K1, r⟩
    dsimp only at e
    subst e
    exact wpS_pure (h q st1 K1 r)
end
end ZS

namespace ZS
open PySem PyProof.Rows
def dnH (a b out : Array Keyed) (i j : Nat) : Array Keyed := a.extract 0 i ++ b.extract 0 j ++ out.reverse
def firstB (a b out : Array Keyed) (i j : Nat) : Array Keyed := b.extract 0 j ++ a.extract 0 i ++ out.reverse
theorem mHi_eq (a b : Array Keyed) : mHi a b = (do
  rule "list.sort.merge-hi"
  let mut i := a.size - 1
  let mut j := b.size
  let mut out : Array Keyed := #[← elem' a i]
  if i == 0 then return dnH a b out i j
  if j == 1 then return firstB a b out i j
  let mut mg := gallopOf (← get)
  for _ in [0:a.size + b.size] do
    let mut ca := 0
    let mut cb := 0
    for _ in [0:a.size + b.size] do
      let some aw ← lt' (← elem' b (j - 1)) (← elem' a (i - 1)) | return dnH a b out i j
      if aw then
        i := i - 1; out := out.push (← elem' a i); ca := ca + 1; cb := 0
        if i == 0 then return dnH a b out i j
        if ca ≥ mg then break
      else
        j := j - 1; out := out.push (← elem' b j); cb := cb + 1; ca := 0
        if j == 1 then return firstB a b out i j
        if cb ≥ mg then break
    rule "list.sort.gallop"
    mg := mg + 1
    for _ in [0:a.size + b.size] do
      if mg > 1 then mg := mg - 1
      setG mg
      let some at' ← gal false (← elem' b (j - 1)) a 0 i (i - 1) | return dnH a b out i j
      let k := i - at'
      ca := k
      if k > 0 then
        out := out ++ (a.extract at' i).reverse; i := at'
        if i == 0 then return dnH a b out i j
      j := j - 1; out := out.push (← elem' b j)
      if j == 1 then return firstB a b out i j
      let some at' ← gal true (← elem' a (i - 1)) b 0 j (j - 1) | return dnH a b out i j
      let k := j - at'
      cb := k
      if k > 0 then
        out := out ++ (b.extract at' j).reverse; j := at'
        if j == 1 then return firstB a b out i j
        if j == 0 then return dnH a b out i j
      i := i - 1; out := out.push (← elem' a i)
      if i == 0 then return dnH a b out i j
      if ca < 7 && cb < 7 then break
    mg := mg + 1
    setG mg
  unsupported "internal:list.sort.merge-bound") := rfl
abbrev GT := Option (Array Keyed) × Nat × Nat × Array Keyed × Nat × Nat × Nat
abbrev FT := Option (Array Keyed) × Nat × Nat × Array Keyed × Nat × Nat
abbrev OT := Option (Array Keyed) × Nat × Nat × Array Keyed × Nat
def k3 (a b out : Array Keyed) (i j mg ca cb : Nat) : StateT SortSt Sem (ForInStep GT) := do
  let y ← elem' a (i - 1)
  if (i - 1 == 0) = true then pure (ForInStep.done (some (dnH a b (out.push y) (i - 1) j), i - 1, j, out.push y, mg, ca, cb))
  else if (decide (ca < 7) && decide (cb < 7)) = true then pure (ForInStep.done (none, i - 1, j, out.push y, mg, ca, cb))
  else pure (ForInStep.yield (none, i - 1, j, out.push y, mg, ca, cb))
def k2 (a b out : Array Keyed) (i j mg ca cb : Nat) : StateT SortSt Sem (ForInStep GT) := do
  let y ← elem' b (j - 1)
  if (j - 1 == 1) = true then pure (ForInStep.done (some (firstB a b (out.push y) i (j - 1)), i, j - 1, out.push y, mg, ca, cb))
  else do
    let z ← elem' a (i - 1)
    let some at' ← gal true z b 0 (j - 1) (j - 1 - 1) | pure (ForInStep.done (some (dnH a b (out.push y) i (j - 1)), i, j - 1, out.push y, mg, ca, cb))
    if j - 1 - at' > 0 then
        if (at' == 1) = true then pure (ForInStep.done (some (firstB a b (out.push y ++ (b.extract at' (j - 1)).reverse) i at'), i, at', out.push y ++ (b.extract at' (j - 1)).reverse, mg, ca, j - 1 - at'))
        else if (at' == 0) = true then pure (ForInStep.done (some (dnH a b (out.push y ++ (b.extract at' (j - 1)).reverse) i at'), i, at', out.push y ++ (b.extract at' (j - 1)).reverse, mg, ca, j - 1 - at'))
        else k3 a b (out.push y ++ (b.extract at' (j - 1)).reverse) i at' mg ca (j - 1 - at')
    else k3 a b (out.push y) i (j - 1) mg ca (j - 1 - at')
def k1 (a b out : Array Keyed) (i j mg ca cb : Nat) : StateT SortSt Sem (ForInStep GT) := do
  setG mg
  let y ← elem' b (j - 1)
  let some at' ← gal false y a 0 i (i - 1) | pure (ForInStep.done (some (dnH a b out i j), i, j, out, mg, ca, cb))
  if i - at' > 0 then
      if (at' == 0) = true then pure (ForInStep.done (some (dnH a b (out ++ (a.extract at' i).reverse) at' j), at', j, out ++ (a.extract at' i).reverse, mg, i - at', cb))
      else k2 a b (out ++ (a.extract at' i).reverse) at' j mg (i - at') cb
  else k2 a b out i j mg (i - at') cb
def e1 (a b out : Array Keyed) (i j ca cb mg : Nat) : StateT SortSt Sem (ForInStep FT) := do
  let y ← elem' b (j - 1)
  let z ← elem' a (i - 1)
  let some aw ← lt' y z | pure (ForInStep.done (some (dnH a b out i j), i, j, out, ca, cb))
  if aw = true then do
      let z ← elem' a (i - 1)
      if (i - 1 == 0) = true then pure (ForInStep.done (some (dnH a b (out.push z) (i - 1) j), i - 1, j, out.push z, ca + 1, 0))
      else if ca + 1 ≥ mg then pure (ForInStep.done (none, i - 1, j, out.push z, ca + 1, 0)) else pure (ForInStep.yield (none, i - 1, j, out.push z, ca + 1, 0))
  else do
      let y ← elem' b (j - 1)
      if (j - 1 == 1) = true then pure (ForInStep.done (some (firstB a b (out.push y) i (j - 1)), i, j - 1, out.push y, 0, cb + 1))
      else if cb + 1 ≥ mg then pure (ForInStep.done (none, i, j - 1, out.push y, 0, cb + 1)) else pure (ForInStep.yield (none, i, j - 1, out.push y, 0, cb + 1))
def oHi (a b : Array Keyed) (c : OT) : StateT SortSt Sem (ForInStep OT) := do
  let r ← forIn [0:a.size + b.size] ((none, c.2.1, c.2.2.1, c.2.2.2.1, 0, 0) : FT) fun _ d => e1 a b d.2.2.2.1 d.2.1 d.2.2.1 d.2.2.2.2.1 d.2.2.2.2.2 c.2.2.2.2
  match r.1 with
  | some q => pure (ForInStep.done (some q, r.2.1, r.2.2.1, r.2.2.2.1, c.2.2.2.2))
  | none => do
    liftM (rule "list.sort.gallop")
    let e ← forIn [0:a.size + b.size] ((none, r.2.1, r.2.2.1, r.2.2.2.1, c.2.2.2.2 + 1, r.2.2.2.2.1, r.2.2.2.2.2) : GT) fun _ d =>
      if d.2.2.2.2.1 > 1 then k1 a b d.2.2.2.1 d.2.1 d.2.2.1 (d.2.2.2.2.1 - 1) d.2.2.2.2.2.1 d.2.2.2.2.2.2 else k1 a b d.2.2.2.1 d.2.1 d.2.2.1 d.2.2.2.2.1 d.2.2.2.2.2.1 d.2.2.2.2.2.2
    match e.1 with
    | some q => pure (ForInStep.done (some q, e.2.1, e.2.2.1, e.2.2.2.1, e.2.2.2.2.1))
    | none => do
      setG (e.2.2.2.2.1 + 1)
      pure (ForInStep.yield (none, e.2.1, e.2.2.1, e.2.2.2.1, e.2.2.2.2.1 + 1))
set_option maxHeartbeats 2000000 in
theorem mHi_eq2 (a b : Array Keyed) : mHi a b = (do
    liftM (rule "list.sort.merge-hi")
    let y ← elem' a (a.size - 1)
    if (a.size - 1 == 0) = true then pure (dnH a b #[y] (a.size - 1) b.size)
    else if (b.size == 1) = true then pure (firstB a b #[y] (a.size - 1) b.size)
    else do
      let st ← get
      let r ← forIn [0:a.size + b.size] ((none, a.size - 1, b.size, #[y], gallopOf st) : OT) fun _ c => oHi a b c
      match r.1 with
      | some q => pure q
      | none => liftM (unsupported "internal:list.sort.merge-bound" : Sem (Array Keyed))) := by
  rw [mHi_eq]
  unfold oHi
  refine congrArg (bind _) (funext fun _ => ?_)
  refine congrArg (bind _) (funext fun y => ?_)
  refine ite_congr rfl (fun _ => rfl) (fun _ => ?_)
  refine ite_congr rfl (fun _ => rfl) (fun _ => ?_)
  refine congrArg (bind _) (funext fun st => ?_)
  refine congr (congrArg bind (congrArg (forIn _ _) (funext fun _ => funext fun c => ?_))) ?_
  · refine congr (congrArg bind (congrArg (forIn _ _) (funext fun _ => funext fun d => ?_))) ?_
    · unfold e1
      rfl
    · funext r
      obtain ⟨r1, r2⟩ := r
      cases r1 with
      | some q => rfl
      | none =>
        refine congrArg (bind _) (funext fun _ => ?_)
        refine congr (congrArg bind (congrArg (forIn _ _) (funext fun _ => funext fun d => ?_))) ?_
        · unfold k1
          refine ite_congr rfl (fun _ => ?_) (fun _ => ?_)
          all_goals
            refine congrArg (bind _) (funext fun _ => ?_)
            refine congrArg (bind _) (funext fun y => ?_)
            refine congrArg (bind _) (funext fun r => ?_)
            cases r with
            | none => rfl
            | some k =>
              refine ite_congr rfl (fun _ => ?_) (fun _ => ?_)
              · refine ite_congr rfl (fun _ => rfl) (fun _ => ?_)
                unfold k2
                rfl
              · unfold k2
                rfl
        · funext e; obtain ⟨e1, e2⟩ := e; cases e1 <;> rfl
  · funext e; obtain ⟨e1, e2⟩ := e; cases e1 <;> rfl
end ZS

namespace ZS
open PySem PyProof.Rows
section
variable {rk : Keyed → Nat}
structure MH (rk : Keyed → Nat) (a b o : List Keyed) (i j : Nat) : Prop where
  perm : o.Perm (a.drop i ++ b.drop j)
  srt : Srt rk o
  le : ∀ x ∈ o, (∀ y ∈ a.take i, rk y ≤ rk x) ∧ ∀ y ∈ b.take j, rk y ≤ rk x
theorem drop_cut {l : List Keyed} {i t : Nat} (h : t ≤ i) : l.drop t = (l.take i).drop t ++ l.drop i := by
  by_cases hi : i ≤ l.length
  · have e := List.take_append_drop i l
    have h2 : (l.take i ++ l.drop i).drop t = (l.take i).drop t ++ l.drop i := List.drop_append_of_le_length (by rw [List.length_take]; omega)
    rw [e] at h2
    exact h2
  · rw [List.take_of_length_le (by omega), List.drop_of_length_le (by omega : l.length ≤ i), List.append_nil]
theorem take_cut {l : List Keyed} {i t : Nat} (h : t ≤ i) : l.take i = l.take t ++ (l.take i).drop t := by
  have := List.take_append_drop t (l.take i)
  rw [List.take_take, Nat.min_eq_left h] at this
  exact this.symm
theorem MH.addA {a b o : List Keyed} {i j t : Nat} (h : MH rk a b o i j) (sa : Srt rk a) (ht : t ≤ i) (hc : ∀ y ∈ (a.take i).drop t, ∀ z ∈ b.take j, rk z ≤ rk y) : MH rk a b ((a.take i).drop t ++ o) t j := by
  have st : Srt rk (a.take i) := List.Pairwise.sublist (List.take_sublist _ _) sa
  refine ⟨?_, ?_, fun x hx => ?_⟩
  · rw [drop_cut (l := a) ht, List.append_assoc]
    exact List.Perm.append_left _ h.perm
  · exact List.pairwise_append.mpr ⟨List.Pairwise.sublist (List.drop_sublist _ _) st, h.srt, fun x hx y hy => (h.le y hy).1 x (List.mem_of_mem_drop hx)⟩
  · rcases List.mem_append.mp hx with hx | hx
    · refine ⟨fun y hy => ?_, hc x hx⟩
      rw [take_cut ht] at st
      exact (List.pairwise_append.mp st).2.2 y hy x hx
    · refine ⟨fun y hy => (h.le x hx).1 y ?_, (h.le x hx).2⟩
      rw [take_cut ht]
      exact List.mem_append_left _ hy
theorem MH.addB {a b o : List Keyed} {i j t : Nat} (h : MH rk a b o i j) (sb : Srt rk b) (ht : t ≤ j) (hc : ∀ y ∈ (b.take j).drop t, ∀ z ∈ a.take i, rk z ≤ rk y) : MH rk a b ((b.take j).drop t ++ o) i t := by
  have st : Srt rk (b.take j) := List.Pairwise.sublist (List.take_sublist _ _) sb
  refine ⟨?_, ?_, fun x hx => ?_⟩
  · rw [drop_cut (l := b) ht]
    refine (List.Perm.append_left _ h.perm).trans ?_
    rw [← List.append_assoc, ← List.append_assoc]
    exact List.Perm.append_right _ List.perm_append_comm
  · exact List.pairwise_append.mpr ⟨List.Pairwise.sublist (List.drop_sublist _ _) st, h.srt, fun x hx y hy => (h.le y hy).2 x (List.mem_of_mem_drop hx)⟩
  · rcases List.mem_append.mp hx with hx | hx
    · refine ⟨hc x hx, fun y hy => ?_⟩
      rw [take_cut ht] at st
      exact (List.pairwise_append.mp st).2.2 y hy x hx
    · refine ⟨(h.le x hx).1, fun y hy => (h.le x hx).2 y ?_⟩
      rw [take_cut ht]
      exact List.mem_append_left _ hy
theorem MH.done {a b o : List Keyed} {i j : Nat} (h : MH rk a b o i j) (sa : Srt rk a) (sb : Srt rk b) (e : i = 0 ∨ j = 0) : Res rk a b (a.take i ++ b.take j ++ o) := by
  have h1 := h.addB (t := 0) sb (Nat.zero_le _) fun y hy z hz => by
    rcases e with e | e
    · rw [e] at hz; simp at hz
    · rw [e] at hy; simp at hy
  have h2 := h1.addA (t := 0) sa (Nat.zero_le _) fun y hy z hz => by simp at hz
  have p := h2.perm
  have q := h2.srt
  simp only [List.drop_zero] at p q
  rw [List.append_assoc]
  exact ⟨p, q⟩
theorem MH.first {a b o : List Keyed} {i j : Nat} (h : MH rk a b o i j) (sa : Srt rk a) (sb : Srt rk b) (e : ∀ y ∈ a.take i, ∀ z ∈ b.take j, rk z ≤ rk y) : Res rk a b (b.take j ++ a.take i ++ o) := by
  have h1 := h.addA (t := 0) sa (Nat.zero_le _) fun y hy z hz => e y (by rw [List.drop_zero] at hy; exact hy) z hz
  have h2 := h1.addB (t := 0) sb (Nat.zero_le _) fun y hy z hz => by simp at hz
  have p := h2.perm
  have q := h2.srt
  simp only [List.drop_zero] at p q
  rw [List.append_assoc]
  exact ⟨p, q⟩
theorem ext_pre (a : Array Keyed) (i : Nat) : (a.extract 0 i).toList = a.toList.take i := by
  rw [Array.toList_extract, List.extract_eq_drop_take, List.drop_zero, Nat.sub_zero]
theorem ext_mid (a : Array Keyed) (t i : Nat) : (a.extract t i).toList = (a.toList.take i).drop t := by
  rw [Array.toList_extract, List.extract_eq_drop_take, List.drop_take]
theorem take_one {l : List Keyed} {i : Nat} {y : Keyed} (h0 : 0 < i) (h : l[i - 1]? = some y) : (l.take i).drop (i - 1) = [y] := by
  obtain ⟨hl, e⟩ := List.getElem?_eq_some_iff.mp h
  have : l.take i = l.take (i - 1) ++ [y] := by
    conv => lhs; rw [show i = i - 1 + 1 by omega, List.take_add_one, h]
    rfl
  rw [this, List.drop_append_of_le_length (by rw [List.length_take]; omega), List.drop_of_length_le (by rw [List.length_take]; omega)]
  rfl
theorem mem_takeI {l : List Keyed} {i : Nat} {y : Keyed} (h : y ∈ l.take i) : ∃ j, j < i ∧ l[j]? = some y := by
  obtain ⟨j, hj⟩ := List.mem_iff_getElem?.mp h
  rw [List.getElem?_take] at hj
  split at hj
  · next hlt => exact ⟨j, hlt, hj⟩
  · cases hj
theorem mem_midI {l : List Keyed} {t i : Nat} {y : Keyed} (h : y ∈ (l.take i).drop t) : ∃ j, t ≤ j ∧ j < i ∧ l[j]? = some y := by
  obtain ⟨j, hj⟩ := mem_dropI h
  rw [List.getElem?_take] at hj
  split at hj
  · next hlt => exact ⟨t + j, by omega, hlt, hj⟩
  · cases hj
end
section
variable {M : Model} {A : Around} {E : Value → Shared → Prop} {s : Shared} {kd : SortKind} {rk : Keyed → Nat} {S : Keyed → Prop} {a b : Array Keyed}
abbrev MHo (rk : Keyed → Nat) (a b out : Array Keyed) (i j : Nat) : Prop := MH rk a.toList b.toList out.toList.reverse i j
theorem LoOk.doneH (h : LoOk rk S a b) {out : Array Keyed} {i j : Nat} (m : MHo rk a b out i j) (e : i = 0 ∨ j = 0) : Res rk a.toList b.toList (dnH a b out i j).toList := by
  unfold dnH
  rw [Array.toList_append, Array.toList_append, ext_pre, ext_pre, Array.toList_reverse]
  exact m.done h.sa h.sb e
theorem LoOk.firstH (h : LoOk rk S a b) {out : Array Keyed} {i j : Nat} (m : MHo rk a b out i j) (e : j = 1) : Res rk a.toList b.toList (firstB a b out i j).toList := by
  unfold firstB
  rw [Array.toList_append, Array.toList_append, ext_pre, ext_pre, Array.toList_reverse]
  refine m.first h.sa h.sb fun y hy z hz => ?_
  subst e
  obtain ⟨k, hk, hz'⟩ := mem_takeI hz
  have k0 : k = 0 := by omega
  subst k0
  exact h.first z (by rw [← Array.getElem?_toList]; exact hz') y (List.mem_of_mem_take hy)
structure HI (rk : Keyed → Nat) (a b out : Array Keyed) (i j : Nat) : Prop where
  m : MHo rk a b out i j
  i0 : 0 < i
  j1 : 1 < j
  ia : i ≤ a.size
  jb : j ≤ b.size
theorem MH.pushA' {out : Array Keyed} {i j : Nat} (m : MHo rk a b out i j) (H : LoOk rk S a b) (h0 : 0 < i) {y : Keyed} (hy : a[i - 1]? = some y) (hc : ∀ z ∈ b.toList.take j, rk z ≤ rk y) : MHo rk a b (out.push y) (i - 1) j := by
  have hy' : a.toList[i - 1]? = some y := by rw [Array.getElem?_toList]; exact hy
  have := m.addA (t := i - 1) H.sa (by omega) (by rw [take_one h0 hy']; intro w hw; rw [List.mem_singleton.mp hw]; exact hc)
  rw [take_one h0 hy'] at this
  show MH _ _ _ (out.push y).toList.reverse _ _
  rw [Array.toList_push, List.reverse_append]
  exact this
theorem MH.pushB' {out : Array Keyed} {i j : Nat} (m : MHo rk a b out i j) (H : LoOk rk S a b) (h0 : 0 < j) {y : Keyed} (hy : b[j - 1]? = some y) (hc : ∀ z ∈ a.toList.take i, rk z ≤ rk y) : MHo rk a b (out.push y) i (j - 1) := by
  have hy' : b.toList[j - 1]? = some y := by rw [Array.getElem?_toList]; exact hy
  have := m.addB (t := j - 1) H.sb (by omega) (by rw [take_one h0 hy']; intro w hw; rw [List.mem_singleton.mp hw]; exact hc)
  rw [take_one h0 hy'] at this
  show MH _ _ _ (out.push y).toList.reverse _ _
  rw [Array.toList_push, List.reverse_append]
  exact this
theorem takeI_le {l : Array Keyed} {i : Nat} {y : Keyed} (srt : Srt rk l.toList) (hy : l[i - 1]? = some y) : ∀ z ∈ l.toList.take i, rk z ≤ rk y := fun z hz => by
  obtain ⟨k, hk, hz'⟩ := mem_takeI hz
  exact srt_at srt (i := k) (j := i - 1) (by omega) hz' (by rw [Array.getElem?_toList]; exact hy)
def StepH (rk : Keyed → Nat) (a b : Array Keyed) (lo : Nat) (st : SortSt) (r : Option (Array Keyed)) (out : Array Keyed) (i j : Nat) (st' : SortSt) : Prop :=
  Keep st st' ∧ match r with
  | some q => Res rk a.toList b.toList q.toList
  | none => HI rk a b out i j ∧ i + j < lo
theorem HI.get (I : HI rk a b out i j) : (∃ y, b[j - 1]? = some y) ∧ ∃ z, a[i - 1]? = some z :=
  ⟨⟨_, Array.getElem?_eq_getElem (by have := I.j1; have := I.jb; omega)⟩, ⟨_, Array.getElem?_eq_getElem (by have := I.i0; have := I.ia; omega)⟩⟩
theorem wp_e1 {out : Array Keyed} {i j ca cb mg : Nat} {st st' : SortSt} {Q : ForInStep FT → SortSt → Prop} (L : LtOk M A E s kd rk S) (H : LoOk rk S a b) (hk : kindOf st = kd) (K : Keep st st') (I : HI rk a b out i j)
    (h : ∀ (d : Bool) (c : FT), StepH rk a b (i + j) st c.1 c.2.2.2.1 c.2.1 c.2.2.1 st' → (d = false → c.1 = none) → Q (if d = true then ForInStep.done c else ForInStep.yield c) st') : wpS M A E s (e1 a b out i j ca cb mg) Q st' := by
  obtain ⟨⟨y, hy⟩, ⟨z, hz⟩⟩ := I.get
  have i0 := I.i0
  have j1 := I.j1
  have ia := I.ia
  have jb := I.jb
  unfold e1
  refine wpS_bind (wp_elem hy (wpS_bind (wp_elem hz (wpS_bind (L y z st' _ (H.Sb _ _ hy) (H.Sa _ _ hz) (K.k.trans hk) ?_)))))
  dsimp only
  by_cases w : rk y < rk z
  · rw [decide_eq_true w, if_pos rfl]
    have m := I.m.pushA' H i0 hz fun u hu => Nat.le_trans (takeI_le H.sb hy u hu) (Nat.le_of_lt w)
    refine wpS_bind (wp_elem hz ?_)
    by_cases e : i - 1 = 0
    · rw [if_pos (by rw [e]; rfl)]
      exact wpS_pure (h true _ ⟨K, H.doneH m (.inl e)⟩ (fun z => nomatch z))
    · rw [if_neg (by simpa using e)]
      have I2 : HI rk a b (out.push z) (i - 1) j := ⟨m, by omega, j1, by omega, jb⟩
      split
      · exact wpS_pure (h true _ ⟨K, I2, by dsimp only; omega⟩ (fun z => nomatch z))
      · exact wpS_pure (h false _ ⟨K, I2, by dsimp only; omega⟩ (fun _ => rfl))
  · rw [decide_eq_false w, if_neg (by simp)]
    have m := I.m.pushB' H (by omega) hy fun u hu => Nat.le_trans (takeI_le H.sa hz u hu) (by omega)
    refine wpS_bind (wp_elem hy ?_)
    by_cases e : j - 1 = 1
    · rw [if_pos (by rw [e]; rfl)]
      exact wpS_pure (h true _ ⟨K, H.firstH m e⟩ (fun z => nomatch z))
    · rw [if_neg (by simpa using e)]
      have I2 : HI rk a b (out.push y) i (j - 1) := ⟨m, i0, by omega, ia, by omega⟩
      split
      · exact wpS_pure (h true _ ⟨K, I2, by dsimp only; omega⟩ (fun z => nomatch z))
      · exact wpS_pure (h false _ ⟨K, I2, by dsimp only; omega⟩ (fun _ => rfl))
theorem wp_k3 {out : Array Keyed} {i j mg ca cb lo : Nat} {st st' : SortSt} {Q : ForInStep GT → SortSt → Prop} (H : LoOk rk S a b) (K : Keep st st') (I : HI rk a b out i j) (hc : ∀ z, a[i - 1]? = some z → ∀ u ∈ b.toList.take j, rk u ≤ rk z) (hl : i + j ≤ lo)
    (h : ∀ (d : Bool) (c : GT), StepH rk a b lo st c.1 c.2.2.2.1 c.2.1 c.2.2.1 st' → (d = false → c.1 = none) → Q (if d = true then ForInStep.done c else ForInStep.yield c) st') : wpS M A E s (k3 a b out i j mg ca cb) Q st' := by
  obtain ⟨⟨y, hy⟩, ⟨z, hz⟩⟩ := I.get
  have i0 := I.i0
  have j1 := I.j1
  have ia := I.ia
  have jb := I.jb
  unfold k3
  have m := I.m.pushA' H i0 hz (hc z hz)
  refine wpS_bind (wp_elem hz ?_)
  by_cases e : i - 1 = 0
  · rw [if_pos (by rw [e]; rfl)]
    exact wpS_pure (h true _ ⟨K, H.doneH m (.inl e)⟩ (fun z => nomatch z))
  · rw [if_neg (by simpa using e)]
    have I2 : HI rk a b (out.push z) (i - 1) j := ⟨m, by omega, j1, by omega, jb⟩
    split
    · exact wpS_pure (h true _ ⟨K, I2, by dsimp only; omega⟩ (fun z => nomatch z))
    · exact wpS_pure (h false _ ⟨K, I2, by dsimp only; omega⟩ (fun _ => rfl))
theorem MHo.block {out : Array Keyed} {i j t : Nat} (m : MHo rk a b out i j) (H : LoOk rk S a b) (ht : t ≤ j) (hc : ∀ y ∈ (b.toList.take j).drop t, ∀ z ∈ a.toList.take i, rk z ≤ rk y) : MHo rk a b (out ++ (b.extract t j).reverse) i t := by
  have := m.addB H.sb ht hc
  show MH _ _ _ (out ++ (b.extract t j).reverse).toList.reverse _ _
  rw [Array.toList_append, List.reverse_append, Array.toList_reverse, List.reverse_reverse, ext_mid]
  exact this
theorem MHo.blockA {out : Array Keyed} {i j t : Nat} (m : MHo rk a b out i j) (H : LoOk rk S a b) (ht : t ≤ i) (hc : ∀ y ∈ (a.toList.take i).drop t, ∀ z ∈ b.toList.take j, rk z ≤ rk y) : MHo rk a b (out ++ (a.extract t i).reverse) t j := by
  have := m.addA H.sa ht hc
  show MH _ _ _ (out ++ (a.extract t i).reverse).toList.reverse _ _
  rw [Array.toList_append, List.reverse_append, Array.toList_reverse, List.reverse_reverse, ext_mid]
  exact this
theorem wp_k2 {out : Array Keyed} {i j mg ca cb lo : Nat} {st st' : SortSt} {Q : ForInStep GT → SortSt → Prop} (L : LtOk M A E s kd rk S) (H : LoOk rk S a b) (hk : kindOf st = kd) (K : Keep st st') (I : HI rk a b out i j) (hc : ∀ y, b[j - 1]? = some y → ∀ u ∈ a.toList.take i, rk u ≤ rk y) (hl : i + j ≤ lo)
    (h : ∀ (d : Bool) (c : GT), StepH rk a b lo st c.1 c.2.2.2.1 c.2.1 c.2.2.1 st' → (d = false → c.1 = none) → Q (if d = true then ForInStep.done c else ForInStep.yield c) st') : wpS M A E s (k2 a b out i j mg ca cb) Q st' := by
  obtain ⟨⟨y, hy⟩, ⟨z, hz⟩⟩ := I.get
  have i0 := I.i0
  have j1 := I.j1
  have ia := I.ia
  have jb := I.jb
  unfold k2
  have m := I.m.pushB' H (by omega) hy (hc y hy)
  refine wpS_bind (wp_elem hy ?_)
  by_cases e : j - 1 = 1
  · rw [if_pos (by rw [e]; rfl)]
    exact wpS_pure (h true _ ⟨K, H.firstH m e⟩ (fun z => nomatch z))
  rw [if_neg (by simpa using e)]
  refine wpS_bind (wp_elem hz (wpS_bind (wp_gal2 L (K.k.trans hk) (by omega) (by omega) H.Sb (H.Sa _ _ hz) (fun p q x w h1 h2 h3 h4 => srt_at H.sb (i := 0 + p) (j := 0 + q) (by omega) (by rw [Array.getElem?_toList]; exact h3) (by rw [Array.getElem?_toList]; exact h4)) fun t t1 t2 t3 => ?_)))
  dsimp only
  have before : ∀ u ∈ b.toList.take t, rk u ≤ rk z := fun u hu => by
    obtain ⟨p, hp1, hp⟩ := mem_takeI hu
    rw [Array.getElem?_toList] at hp
    have := t2 p u hp1 (by rw [Nat.zero_add]; exact hp)
    simp at this
    omega
  by_cases pk : j - 1 - t > 0
  · rw [if_pos pk]
    have m2 : MHo rk a b (out.push y ++ (b.extract t (j - 1)).reverse) i t := by
      refine MHo.block m H (by omega) fun u hu w hw => ?_
      obtain ⟨p, hp0, hp1, hp⟩ := mem_midI hu
      rw [Array.getElem?_toList] at hp
      have := t3 p u hp0 hp1 (by rw [Nat.zero_add]; exact hp)
      simp at this
      exact Nat.le_trans (takeI_le H.sa hz w hw) this
    by_cases e1 : t = 1
    · rw [if_pos (by rw [e1]; rfl)]
      exact wpS_pure (h true _ ⟨K, H.firstH m2 e1⟩ (fun z => nomatch z))
    rw [if_neg (by simpa using e1)]
    by_cases e2 : t = 0
    · rw [if_pos (by rw [e2]; rfl)]
      exact wpS_pure (h true _ ⟨K, H.doneH m2 (.inr e2)⟩ (fun z => nomatch z))
    rw [if_neg (by simpa using e2)]
    refine wp_k3 H K ⟨m2, i0, by omega, ia, by omega⟩ (fun z' hz' => ?_) (by omega) h
    rw [hz] at hz'
    cases hz'
    exact before
  · rw [if_neg pk]
    have k0 : t = j - 1 := by omega
    refine wp_k3 H K ⟨m, i0, by omega, ia, by omega⟩ (fun z' hz' => ?_) (by omega) h
    rw [hz] at hz'
    cases hz'
    rw [k0] at before
    exact before
theorem wp_k1 {out : Array Keyed} {i j mg ca cb : Nat} {st st' : SortSt} {Q : ForInStep GT → SortSt → Prop} (L : LtOk M A E s kd rk S) (H : LoOk rk S a b) (hk : kindOf st = kd) (K : Keep st st') (I : HI rk a b out i j)
    (h : ∀ (d : Bool) (c : GT) (st2 : SortSt), StepH rk a b (i + j) st c.1 c.2.2.2.1 c.2.1 c.2.2.1 st2 → (d = false → c.1 = none) → Q (if d = true then ForInStep.done c else ForInStep.yield c) st2) : wpS M A E s (k1 a b out i j mg ca cb) Q st' := by
  obtain ⟨⟨y, hy⟩, ⟨z, hz⟩⟩ := I.get
  have i0 := I.i0
  have j1 := I.j1
  have ia := I.ia
  have jb := I.jb
  unfold k1
  refine wpS_bind (wp_setG (wpS_bind (wp_elem hy ?_)))
  have K2 := K.g mg
  revert K2
  generalize SortSt.mk' (kindOf st') (arrOf st') (pendingOf st') mg (failedOf st') = st2
  intro K2
  refine wpS_bind (wp_gal2 L (K2.k.trans hk) (by omega) (by omega) H.Sa (H.Sb _ _ hy) (fun p q x w h1 h2 h3 h4 => srt_at H.sa (i := 0 + p) (j := 0 + q) (by omega) (by rw [Array.getElem?_toList]; exact h3) (by rw [Array.getElem?_toList]; exact h4)) fun t t1 t2 t3 => ?_)
  dsimp only
  have before : ∀ u ∈ a.toList.take t, rk u ≤ rk y := fun u hu => by
    obtain ⟨p, hp1, hp⟩ := mem_takeI hu
    rw [Array.getElem?_toList] at hp
    have := t2 p u hp1 (by rw [Nat.zero_add]; exact hp)
    simpa using this
  by_cases pk : i - t > 0
  · rw [if_pos pk]
    have m2 : MHo rk a b (out ++ (a.extract t i).reverse) t j := by
      refine MHo.blockA I.m H (by omega) fun u hu w hw => ?_
      obtain ⟨p, hp0, hp1, hp⟩ := mem_midI hu
      rw [Array.getElem?_toList] at hp
      have := t3 p u hp0 hp1 (by rw [Nat.zero_add]; exact hp)
      simp at this
      exact Nat.le_trans (takeI_le H.sb hy w hw) (Nat.le_of_lt this)
    by_cases e2 : t = 0
    · rw [if_pos (by rw [e2]; rfl)]
      exact wpS_pure (h true _ _ ⟨K2, H.doneH m2 (.inl e2)⟩ (fun z => nomatch z))
    rw [if_neg (by simpa using e2)]
    refine wp_k2 L H hk K2 ⟨m2, by omega, j1, by omega, jb⟩ (fun y' hy' => ?_) (by omega) fun d c x1 x2 => h d c _ x1 x2
    rw [hy] at hy'
    cases hy'
    exact before
  · rw [if_neg pk]
    have k0 : t = i := by omega
    rw [k0] at before
    refine wp_k2 L H hk K2 I (fun y' hy' => ?_) (Nat.le_refl _) fun d c x1 x2 => h d c _ x1 x2
    rw [hy] at hy'
    cases hy'
    exact before
theorem wp_mHi {st : SortSt} {Q : Array Keyed → SortSt → Prop} (L : LtOk M A E s kd rk S) (H : LoOk rk S a b) (hk : kindOf st = kd) (h : ∀ r st', Keep st st' → Res rk a.toList b.toList r.toList → Q r st') (hr : ∀ x, wpAny M A (rule x) (fun _ s' => s' = s) E s) : wpS M A E s (mHi a b) Q st := by
  rw [mHi_eq2]
  have pa := H.pa
  have pb := H.pb
  obtain ⟨y, hy⟩ : ∃ y, a[a.size - 1]? = some y := ⟨_, Array.getElem?_eq_getElem (by omega)⟩
  have rl : ∀ {x : String} {R : Unit → SortSt → Prop} {st' : SortSt}, R () st' → wpS M A E s (liftM (rule x) : StateT SortSt Sem Unit) R st' := fun {x R st'} q => wpS_lift (wpAny_mono (hr x) (fun _ _ z => ⟨z, q⟩) fun _ _ z => z)
  refine wpS_bind (rl (wpS_bind (wp_elem hy ?_)))
  have m0 : MHo rk a b #[] a.size b.size := ⟨by simp, List.Pairwise.nil, fun x hx => by simp at hx⟩
  have m1 : MHo rk a b #[y] (a.size - 1) b.size := m0.pushA' H pa hy fun z hz => H.last y hy z (List.mem_of_mem_take hz)
  by_cases e1 : a.size - 1 = 0
  · rw [if_pos (by rw [e1]; rfl)]
    exact wpS_pure (h _ _ .rfl' (H.doneH m1 (.inl e1)))
  rw [if_neg (by simpa using e1)]
  by_cases e2 : b.size = 1
  · rw [if_pos (by rw [e2]; rfl)]
    exact wpS_pure (h _ _ .rfl' (H.firstH m1 e2))
  rw [if_neg (by simpa using e2)]
  refine wpS_bind (wpS_get ?_)
  refine wpS_bind (wpS_mono (wpS_forRange (I := fun x (c : OT) st' => c.1 = none ∧ Keep st st' ∧ HI rk a b c.2.2.2.1 c.2.1 c.2.2.1 ∧ c.2.1 + c.2.2.1 + x < a.size + b.size) (Q := fun (c : OT) st' => ∃ q, c.1 = some q ∧ Keep st st' ∧ Res rk a.toList b.toList q.toList) ?_ ?_ ⟨rfl, .rfl', ⟨m1, by dsimp only; omega, by dsimp only; omega, by dsimp only; omega, by dsimp only; omega⟩, by dsimp only; omega⟩) ?_)
  · rintro x ⟨c1, i, j, out, mg⟩ st1 _ hx ⟨rfl, K1, I1, px⟩
    unfold oHi
    dsimp only at I1 px ⊢
    refine wpS_bind (wpS_mono (wpS_forRange (I := fun x (c : FT) st' => c.1 = none ∧ Keep st st' ∧ HI rk a b c.2.2.2.1 c.2.1 c.2.2.1 ∧ c.2.1 + c.2.2.1 + x ≤ i + j) (Q := fun (c : FT) st' => StepH rk a b (i + j) st c.1 c.2.2.2.1 c.2.1 c.2.2.1 st') ?_ ?_ ⟨rfl, K1, I1, Nat.le_refl _⟩) ?_)
    · rintro x2 ⟨d1, i2, j2, out2, ca, cb⟩ st2 _ hx2 ⟨rfl, K2, I2, p2⟩
      dsimp only at I2 p2 ⊢
      refine wp_e1 L H hk K2 I2 fun d c hs hn => ?_
      cases d with
      | true =>
        show StepH _ _ _ _ _ _ _ _ _ _
        refine ⟨hs.1, ?_⟩
        have h2 := hs.2
        cases e : c.1 with
        | some q => rw [e] at h2; exact h2
        | none => rw [e] at h2; exact ⟨h2.1, by have := h2.2; omega⟩
      | false =>
        have h2 := hs.2
        rw [hn rfl] at h2
        exact ⟨hn rfl, hs.1, h2.1, by have := h2.2; omega⟩
    · rintro ⟨c1, i2, j2, out2, ca, cb⟩ st2 ⟨rfl, K2, I2, p2⟩
      dsimp only at I2 p2 ⊢
      have := I2.i0
      have := I2.j1
      omega
    · rintro ⟨c1, i2, j2, out2, ca, cb⟩ st2 ⟨K2, h2⟩
      cases c1 with
      | some q => exact wpS_pure ⟨q, rfl, K2, h2⟩
      | none =>
        obtain ⟨I2, p2⟩ := h2
        dsimp only at I2 p2 ⊢
        refine wpS_bind (rl ?_)
        refine wpS_bind (wpS_mono (wpS_forRange (I := fun _ (c : GT) st' => c.1 = none ∧ Keep st st' ∧ HI rk a b c.2.2.2.1 c.2.1 c.2.2.1 ∧ c.2.1 + c.2.2.1 < i + j) (Q := fun (c : GT) st' => StepH rk a b (i + j) st c.1 c.2.2.2.1 c.2.1 c.2.2.1 st') ?_ ?_ ⟨rfl, K2, I2, p2⟩) ?_)
        · rintro x3 ⟨d1, i3, j3, out3, mg3, ca3, cb3⟩ st3 _ hx3 ⟨rfl, K3, I3, p3⟩
          dsimp only at I3 p3 ⊢
          have go : ∀ mg', wpS M A E s (k1 a b out3 i3 j3 mg' ca3 cb3) (fun r st' => match r with | .done c' => StepH rk a b (i + j) st c'.1 c'.2.2.2.1 c'.2.1 c'.2.2.1 st' | .yield c' => c'.1 = none ∧ Keep st st' ∧ HI rk a b c'.2.2.2.1 c'.2.1 c'.2.2.1 ∧ c'.2.1 + c'.2.2.1 < i + j) st3 := fun mg' => by
            refine wp_k1 L H hk K3 I3 fun d c st4 hs hn => ?_
            cases d with
            | true =>
              show StepH _ _ _ _ _ _ _ _ _ _
              refine ⟨hs.1, ?_⟩
              have h2 := hs.2
              cases e : c.1 with
              | some q => rw [e] at h2; exact h2
              | none => rw [e] at h2; exact ⟨h2.1, by have := h2.2; omega⟩
            | false =>
              have h2 := hs.2
              rw [hn rfl] at h2
              exact ⟨hn rfl, hs.1, h2.1, by have := h2.2; omega⟩
          split
          · exact wpS_mono (go _) fun r st' h => by cases r <;> exact h
          · exact wpS_mono (go _) fun r st' h => by cases r <;> exact h
        · rintro ⟨c1, i3, j3, out3, mg3, ca3, cb3⟩ st3 ⟨rfl, K3, I3, p3⟩
          exact ⟨K3, I3, p3⟩
        · rintro ⟨c1, i3, j3, out3, mg3, ca3, cb3⟩ st3 ⟨K3, h3⟩
          cases c1 with
          | some q => exact wpS_pure ⟨q, rfl, K3, h3⟩
          | none =>
            obtain ⟨I3, p3⟩ := h3
            refine wpS_bind (wp_setG (wpS_pure ⟨rfl, K3.g _, I3, ?_⟩))
            dsimp only at p3 ⊢
            omega
  · rintro ⟨c1, i, j, out, mg⟩ st1 ⟨rfl, K1, I1, px⟩
    dsimp only at px
    omega
  · rintro ⟨c1, i, j, out, mg⟩ st1 ⟨q, e, K1, r⟩
    dsimp only at e
    subst e
    exact wpS_pure (h q st1 K1 r)
end
end ZS

namespace ZS
open PySem PyProof.Rows
/-- the rank at a place -/
def R (rk : Keyed → Nat) (xs : Array Keyed) (i : Nat) : Nat := match xs[i]? with
  | some p => rk p
  | none => 0
structure Kp2 (st st' : SortSt) : Prop where
  k : kindOf st' = kindOf st
  p : pendingOf st' = pendingOf st
  f : failedOf st' = failedOf st
  a : (arrOf st').Perm (arrOf st)
theorem Kp2.rfl' {st : SortSt} : Kp2 st st := ⟨rfl, rfl, rfl, Array.Perm.refl _⟩
theorem Kp2.trans {s1 s2 s3 : SortSt} (h : Kp2 s1 s2) (g : Kp2 s2 s3) : Kp2 s1 s3 := ⟨g.k.trans h.k, g.p.trans h.p, g.f.trans h.f, g.a.trans h.a⟩
theorem Kp2.size {st st' : SortSt} (h : Kp2 st st') : (arrOf st').size = (arrOf st).size := h.a.size_eq
section
variable {rk : Keyed → Nat}
theorem R_congr {xs ys : Array Keyed} {i j : Nat} (h : xs[i]? = ys[j]?) : R rk xs i = R rk ys j := by unfold R; rw [h]
theorem R_mirror {xs : Array Keyed} {i j : Nat} (hj : j ≤ xs.size) (k : Nat) : R rk (mirror xs i j ((j - i) / 2)) k = if i ≤ k ∧ k < j then R rk xs (i + j - 1 - k) else R rk xs k := by
  have := getElem?_mirror_all (i := i) hj k
  split at this <;> rename_i h
  · rw [if_pos h]; exact R_congr this
  · rw [if_neg h]; exact R_congr this
theorem R_bubble {xs : Array Keyed} {src d : Nat} (hs : src < xs.size) (hd : d ≤ src) (k : Nat) : R rk (bubble xs src d) k = if k = src - d then R rk xs src else if src - d < k ∧ k ≤ src then R rk xs (k - 1) else R rk xs k := by
  have := getElem?_bubble hs d hd k
  split at this
  · rename_i h; rw [if_pos h]; exact R_congr this
  · rename_i h
    rw [if_neg h]
    split at this
    · rename_i h2; rw [if_pos h2]; exact R_congr this
    · rename_i h2; rw [if_neg h2]; exact R_congr this
def SrtT (rk : Keyed → Nat) (xs : Array Keyed) (lo n : Nat) : Prop := ∀ i j, i ≤ j → j < n → R rk xs (lo + i) ≤ R rk xs (lo + j)
def DecT (rk : Keyed → Nat) (xs : Array Keyed) (lo n : Nat) : Prop := ∀ i j, i ≤ j → j < n → R rk xs (lo + j) ≤ R rk xs (lo + i)
end
/-- what a step over places lo .. lo + n - 1 leaves -/
structure Within (st st' : SortSt) (lo n : Nat) : Prop where
  kp : Kp2 st st'
  out : ∀ k, (k < lo ∨ lo + n ≤ k) → (arrOf st')[k]? = (arrOf st)[k]?
theorem Within.rfl' {st : SortSt} {lo n : Nat} : Within st st lo n := ⟨.rfl', fun _ _ => rfl⟩
theorem Within.trans {s1 s2 s3 : SortSt} {lo n : Nat} (h : Within s1 s2 lo n) (g : Within s2 s3 lo n) : Within s1 s3 lo n := ⟨h.kp.trans g.kp, fun k hk => (g.out k hk).trans (h.out k hk)⟩
section
variable {M : Model} {A : Around} {E : Value → Shared → Prop} {s : Shared} {kd : SortKind} {rk : Keyed → Nat} {S : Keyed → Prop}
/-- all items are known -/
def AllS (S : Keyed → Prop) (st : SortSt) : Prop := ∀ p ∈ (arrOf st).toList, S p
theorem AllS.at {st : SortSt} (h : AllS S st) {i : Nat} {p : Keyed} (e : (arrOf st)[i]? = some p) : S p := h p (by rw [← Array.getElem?_toList] at e; exact List.mem_of_getElem? e)
theorem AllS.kp {st st' : SortSt} (h : AllS S st) (k : Kp2 st st') : AllS S st' := fun p hp => h p ((Array.perm_iff_toList_perm.mp k.a).mem_iff.mp hp)
theorem wp_ltAt {i j : Nat} {st : SortSt} {Q : Option Bool → SortSt → Prop} (L : LtOk M A E s kd rk S) (hk : kindOf st = kd) (hS : AllS S st) (hi : i < (arrOf st).size) (hj : j < (arrOf st).size) (q : Q (some (decide (R rk (arrOf st) i < R rk (arrOf st) j))) st) : wpS M A E s (ltAt' i j) Q st := by
  rw [ltAt'_eq]
  refine wpS_bind (wpS_get ?_)
  have e1 : (arrOf st)[i]? = some (arrOf st)[i] := Array.getElem?_eq_getElem hi
  have e2 : (arrOf st)[j]? = some (arrOf st)[j] := Array.getElem?_eq_getElem hj
  refine wpS_bind (wp_elem e1 (wpS_bind (wp_elem e2 (L _ _ st _ (hS.at e1) (hS.at e2) hk ?_))))
  unfold R at q
  rw [e1, e2] at q
  exact q
theorem wp_rev {i j lo n : Nat} {st : SortSt} {Q : Unit → SortSt → Prop} (hl : lo ≤ i) (hj : j ≤ lo + n) (hsz : j ≤ (arrOf st).size) (h : ∀ st', Within st st' lo n → (∀ k, R rk (arrOf st') k = if i ≤ k ∧ k < j then R rk (arrOf st) (i + j - 1 - k) else R rk (arrOf st) k) → Q () st') : wpS M A E s (reverseSlice' i j) Q st := by
  rw [reverseSlice'_eq]
  refine wpS_modify (h _ ⟨⟨rfl, rfl, rfl, mirror_perm _ _ _ _⟩, fun k hk => ?_⟩ fun k => R_mirror hsz k)
  show (mirror (arrOf st) i j ((j - i) / 2))[k]? = _
  rw [getElem?_mirror_all hsz, if_neg (by omega)]
theorem wp_binS {lo n ok : Nat} {st : SortSt} {Q : Bool → SortSt → Prop} (L : LtOk M A E s kd rk S) (hk : kindOf st = kd) (hS : AllS S st) (hn : lo + n ≤ (arrOf st).size) (hok : ok ≤ n) (hs : SrtT rk (arrOf st) lo ok)
    (h : ∀ st', Within st st' lo n → SrtT rk (arrOf st') lo n → Q true st') : wpS M A E s (binarySort' lo n ok) Q st := by
  rw [binarySort'_eq]
  refine wpS_bind (wpS_mono (wpS_forRange (I := fun k c st' => c = (none, ()) ∧ Within st st' lo n ∧ SrtT rk (arrOf st') lo k) (Q := fun c st' => c = (none, ()) ∧ Within st st' lo n ∧ SrtT rk (arrOf st') lo (max (max ok 1) n)) ?_ (fun c st' z => z) ⟨rfl, .rfl', fun i j h1 h2 => ?_⟩) ?_)
  · rintro k c st1 hk1 hk2 ⟨rfl, W, s1⟩
    have sz1 := W.kp.size
    have hS1 := hS.kp W.kp
    refine wpS_bind (wpS_mono (wpS_forRange (I := fun x c st' => st' = st1 ∧ ∃ l r, c = (none, l, r) ∧ l ≤ r ∧ r ≤ k ∧ r - l ≤ k - x ∧ (∀ i, i < l → R rk (arrOf st1) (lo + i) ≤ R rk (arrOf st1) (lo + k)) ∧ (∀ i, r ≤ i → i < k → R rk (arrOf st1) (lo + k) < R rk (arrOf st1) (lo + i)))
      (Q := fun c st' => st' = st1 ∧ ∃ l, c = (none, l, l) ∧ l ≤ k ∧ (∀ i, i < l → R rk (arrOf st1) (lo + i) ≤ R rk (arrOf st1) (lo + k)) ∧ (∀ i, l ≤ i → i < k → R rk (arrOf st1) (lo + k) < R rk (arrOf st1) (lo + i))) ?_ ?_ ⟨rfl, 0, k, rfl, Nat.zero_le _, Nat.le_refl _, by omega, fun i hi => by omega, fun i h1 h2 => by omega⟩) ?_)
    · rintro x c st2 _ hx ⟨rfl, l, r, rfl, g1, g2, g3, g4, g5⟩
      dsimp only
      by_cases z : l ≥ r
      · rw [if_pos z]
        have e : l = r := by omega
        subst e
        exact wpS_pure ⟨rfl, l, rfl, g2, g4, g5⟩
      · rw [if_neg z]
        refine wpS_bind (wp_ltAt L (W.kp.k.trans hk) hS1 (by omega) (by omega) ?_)
        dsimp only
        by_cases w : R rk (arrOf st2) (lo + k) < R rk (arrOf st2) (lo + (l + r) / 2)
        · rw [decide_eq_true w, if_pos rfl]
          refine wpS_pure ⟨rfl, l, (l + r) / 2, rfl, by omega, by omega, by omega, g4, fun i h1 h2 => ?_⟩
          have := s1 ((l + r) / 2) i h1 h2
          omega
        · rw [decide_eq_false w, if_neg (by simp)]
          refine wpS_pure ⟨rfl, (l + r) / 2 + 1, r, rfl, by omega, by omega, by omega, fun i hi => ?_, g5⟩
          have := s1 i ((l + r) / 2) (by omega) (by omega)
          omega
    · rintro c st2 ⟨rfl, l, r, rfl, g1, g2, g3, g4, g5⟩
      have e : l = r := by omega
      subst e
      exact ⟨rfl, l, rfl, g2, g4, g5⟩
    · rintro c st2 ⟨rfl, l, rfl, g2, g4, g5⟩
      dsimp only
      rw [moveDown'_eq]
      have hb := fun j => R_bubble (rk := rk) (xs := arrOf st2) (src := lo + k) (d := lo + k - (lo + l)) (by omega) (by omega) j
      refine wpS_bind (wpS_modify (wpS_pure ⟨rfl, W.trans ⟨⟨rfl, rfl, rfl, bubble_perm _ _ _⟩, fun j hj => ?_⟩, fun i j hij hj => ?_⟩))
      · show (bubble (arrOf st2) (lo + k) (lo + k - (lo + l)))[j]? = _
        rw [getElem?_bubble (by omega) _ (by omega), if_neg (by omega), if_neg (by omega)]
      · show R rk (bubble (arrOf st2) (lo + k) (lo + k - (lo + l))) (lo + i) ≤ R rk (bubble (arrOf st2) (lo + k) (lo + k - (lo + l))) (lo + j)
        rw [hb, hb]
        have ss : ∀ p q, p ≤ q → q < k → R rk (arrOf st2) (lo + p) ≤ R rk (arrOf st2) (lo + q) := s1
        by_cases i1 : i < l
        · rw [if_neg (by omega), if_neg (by omega)]
          by_cases j1 : j < l
          · rw [if_neg (by omega), if_neg (by omega)]
            exact ss i j hij (by omega)
          · by_cases j2 : j = l
            · rw [if_pos (by omega)]
              exact g4 i i1
            · rw [if_neg (by omega), if_pos (by omega), show lo + j - 1 = lo + (j - 1) by omega]
              exact ss i (j - 1) (by omega) (by omega)
        · by_cases i2 : i = l
          · rw [if_pos (by omega)]
            by_cases j2 : j = l
            · rw [if_pos (by omega)]
              exact Nat.le_refl _
            · rw [if_neg (by omega), if_pos (by omega), show lo + j - 1 = lo + (j - 1) by omega]
              exact Nat.le_of_lt (g5 (j - 1) (by omega) (by omega))
          · rw [if_neg (by omega), if_pos (by omega), if_neg (by omega), if_pos (by omega), show lo + j - 1 = lo + (j - 1) by omega, show lo + i - 1 = lo + (i - 1) by omega]
            exact ss (i - 1) (j - 1) (by omega) (by omega)
  · by_cases z : 1 ≤ ok
    · rw [Nat.max_eq_left z] at h2
      exact hs i j h1 h2
    · have : i = j := by omega
      subst this
      exact Nat.le_refl _
  · rintro c st1 ⟨rfl, W, s1⟩
    exact wpS_pure (h st1 W fun i j h1 h2 => s1 i j h1 (by omega))
end
end ZS

namespace ZS
open PySem PyProof.Rows
def crAsc (l0 a0 q0 : Nat) : StateT SortSt Sem (Option Nat) := do
  let mut n := a0
  for _ in [a0:q0] do
    let some sm ← ltAt' (l0 + n) (l0 + n - 1) | return none
    if sm then break
    n := n + 1
  return some n
def crTail (l0 a0 q0 : Nat) : StateT SortSt Sem (Option Nat) := do
  reverseSlice' l0 (l0 + a0)
  crAsc l0 a0 q0
def crDesc (l0 a0 q0 : Nat) : StateT SortSt Sem (Option Nat) := do
  rule "list.sort.descending-run"
  let mut n := a0 + 1
  let mut eq := 0
  for _ in [n:q0] do
    let some sm ← ltAt' (l0 + n) (l0 + n - 1) | return none
    if sm then
      if eq > 0 then reverseSlice' (l0 + n - (eq + 1)) (l0 + n)
      eq := 0
    else
      let some la ← ltAt' (l0 + n - 1) (l0 + n) | return none
      if la then break
      eq := eq + 1
    n := n + 1
  if eq > 0 then
    reverseSlice' (l0 + n - (eq + 1)) (l0 + n)
    crTail l0 n q0
  else crTail l0 n q0
theorem cr_eq (l0 q0 : Nat) : countRun' l0 q0 = (do
  let mut n := 1
  for _ in [1:q0] do
    let some sm ← ltAt' (l0 + n) (l0 + n - 1) | return none
    if sm then break
    n := n + 1
  if n == q0 then return some n
  if n > 1 then
    let some ro ← ltAt' l0 (l0 + n - 1) | return none
    if ro then return some n
    reverseSlice' l0 (l0 + n)
    crDesc l0 n q0
  else crDesc l0 n q0) := rfl
section
variable {M : Model} {A : Around} {E : Value → Shared → Prop} {s : Shared} {kd : SortKind} {rk : Keyed → Nat} {S : Keyed → Prop}
theorem SrtT.snoc {xs : Array Keyed} {lo n : Nat} (h : SrtT rk xs lo n) (h1 : 1 ≤ n) (k : R rk xs (lo + n - 1) ≤ R rk xs (lo + n)) : SrtT rk xs lo (n + 1) := fun i j hij hj => by
  by_cases z : j < n
  · exact h i j hij z
  · have e : j = n := by omega
    subst e
    by_cases w : i = j
    · subst w; exact Nat.le_refl _
    · have := h i (j - 1) (by omega) (by omega)
      rw [show lo + (j - 1) = lo + j - 1 by omega] at this
      exact Nat.le_trans this k
theorem wp_crAsc {l0 a0 q0 : Nat} {st : SortSt} {Q : Option Nat → SortSt → Prop} (L : LtOk M A E s kd rk S) (hk : kindOf st = kd) (hS : AllS S st) (hsz : l0 + q0 ≤ (arrOf st).size) (h1 : 1 ≤ a0) (h2 : a0 ≤ q0) (hs : SrtT rk (arrOf st) l0 a0)
    (h : ∀ n, a0 ≤ n → n ≤ q0 → SrtT rk (arrOf st) l0 n → Q (some n) st) : wpS M A E s (crAsc l0 a0 q0) Q st := by
  unfold crAsc
  dsimp only
  refine wpS_bind (wpS_mono (wpS_forRange (I := fun x c st' => st' = st ∧ c = (none, x) ∧ SrtT rk (arrOf st) l0 x) (Q := fun c st' => st' = st ∧ ∃ n, c = (none, n) ∧ a0 ≤ n ∧ n ≤ q0 ∧ SrtT rk (arrOf st) l0 n) ?_ ?_ ⟨rfl, rfl, hs⟩) ?_)
  · rintro x c st1 hx1 hx2 ⟨rfl, rfl, s1⟩
    dsimp only
    refine wpS_bind (wp_ltAt L hk hS (by omega) (by omega) ?_)
    dsimp only
    by_cases w : R rk (arrOf st1) (l0 + x) < R rk (arrOf st1) (l0 + x - 1)
    · rw [decide_eq_true w, if_pos rfl]
      exact wpS_pure ⟨rfl, x, rfl, hx1, by omega, s1⟩
    · rw [decide_eq_false w, if_neg (by simp)]
      exact wpS_pure ⟨rfl, rfl, s1.snoc (by omega) (by omega)⟩
  · rintro c st1 ⟨rfl, rfl, s1⟩
    rw [Nat.max_eq_right h2] at s1 ⊢
    exact ⟨rfl, q0, rfl, h2, Nat.le_refl _, s1⟩
  · rintro c st1 ⟨rfl, n, rfl, g1, g2, g3⟩
    exact wpS_pure (h n g1 g2 g3)
theorem wp_crTail {l0 a0 q0 : Nat} {st : SortSt} {Q : Option Nat → SortSt → Prop} (L : LtOk M A E s kd rk S) (hk : kindOf st = kd) (hS : AllS S st) (hsz : l0 + q0 ≤ (arrOf st).size) (h1 : 1 ≤ a0) (h2 : a0 ≤ q0) (hs : DecT rk (arrOf st) l0 a0)
    (h : ∀ n st', a0 ≤ n → n ≤ q0 → Within st st' l0 q0 → SrtT rk (arrOf st') l0 n → Q (some n) st') : wpS M A E s (crTail l0 a0 q0) Q st := by
  unfold crTail
  refine wpS_bind (wp_rev (rk := rk) (lo := l0) (n := q0) (Nat.le_refl _) (by omega) (by omega) fun st1 W1 r1 => ?_)
  refine wp_crAsc L (W1.kp.k.trans hk) (hS.kp W1.kp) (by rw [W1.kp.size]; exact hsz) h1 h2 (fun i j hij hj => ?_) fun n g1 g2 g3 => h n st1 g1 g2 W1 g3
  rw [r1, r1, if_pos (by omega), if_pos (by omega), show l0 + (l0 + a0) - 1 - (l0 + i) = l0 + (a0 - 1 - i) by omega, show l0 + (l0 + a0) - 1 - (l0 + j) = l0 + (a0 - 1 - j) by omega]
  exact hs (a0 - 1 - j) (a0 - 1 - i) (by omega) (by omega)
/-- a reversed part of like ranks changes none -/
theorem wp_revEq {i j lo n : Nat} {st : SortSt} {Q : Unit → SortSt → Prop} (hl : lo ≤ i) (hj : j ≤ lo + n) (hsz : j ≤ (arrOf st).size) (heq : ∀ k, i ≤ k → k < j → R rk (arrOf st) k = R rk (arrOf st) (j - 1)) (h : ∀ st', Within st st' lo n → (∀ k, R rk (arrOf st') k = R rk (arrOf st) k) → Q () st') : wpS M A E s (reverseSlice' i j) Q st := by
  refine wp_rev (rk := rk) hl hj hsz fun st1 W r1 => h st1 W fun k => ?_
  rw [r1]
  split
  · rename_i z
    rw [heq k z.1 z.2, heq (i + j - 1 - k) (by omega) (by omega)]
  · rfl
theorem DecT.snoc {xs : Array Keyed} {lo n : Nat} (h : DecT rk xs lo n) (h1 : 1 ≤ n) (k : R rk xs (lo + n) ≤ R rk xs (lo + n - 1)) : DecT rk xs lo (n + 1) := fun i j hij hj => by
  by_cases z : j < n
  · exact h i j hij z
  · have e : j = n := by omega
    subst e
    by_cases w : i = j
    · subst w; exact Nat.le_refl _
    · have := h i (j - 1) (by omega) (by omega)
      rw [show lo + (j - 1) = lo + j - 1 by omega] at this
      exact Nat.le_trans k this
theorem wp_crDesc {l0 a0 q0 : Nat} {st : SortSt} {Q : Option Nat → SortSt → Prop} (L : LtOk M A E s kd rk S) (hk : kindOf st = kd) (hS : AllS S st) (hsz : l0 + q0 ≤ (arrOf st).size) (h2 : a0 + 1 ≤ q0) (hs : DecT rk (arrOf st) l0 (a0 + 1)) (hr : ∀ x, wpAny M A (rule x) (fun _ s' => s' = s) E s)
    (h : ∀ n st', 1 ≤ n → n ≤ q0 → Within st st' l0 q0 → SrtT rk (arrOf st') l0 n → Q (some n) st') : wpS M A E s (crDesc l0 a0 q0) Q st := by
  unfold crDesc
  refine wpS_bind (wpS_lift (wpAny_mono (hr _) (fun _ _ z => ⟨z, ?_⟩) fun _ _ z => z))
  dsimp only
  refine wpS_bind (wpS_mono (wpS_forRange (I := fun x c st' => ∃ eq, c = (none, x, eq) ∧ Within st st' l0 q0 ∧ DecT rk (arrOf st') l0 x ∧ eq + 1 ≤ x ∧ ∀ k, x - 1 - eq ≤ k → k < x → R rk (arrOf st') (l0 + k) = R rk (arrOf st') (l0 + (x - 1)))
    (Q := fun c st' => ∃ n eq, c = (none, n, eq) ∧ a0 + 1 ≤ n ∧ n ≤ q0 ∧ Within st st' l0 q0 ∧ DecT rk (arrOf st') l0 n ∧ eq + 1 ≤ n ∧ ∀ k, n - 1 - eq ≤ k → k < n → R rk (arrOf st') (l0 + k) = R rk (arrOf st') (l0 + (n - 1))) ?_ ?_ ⟨0, rfl, .rfl', hs, by omega, fun k h1 h2 => by rw [show k = a0 + 1 - 1 by omega]⟩) ?_)
  · rintro x c st1 hx1 hx2 ⟨eq, rfl, W, d1, e1, ev⟩
    dsimp only
    have hk1 := W.kp.k.trans hk
    have hS1 := hS.kp W.kp
    have sz1 := W.kp.size
    refine wpS_bind (wp_ltAt L hk1 hS1 (by omega) (by omega) ?_)
    dsimp only
    by_cases w : R rk (arrOf st1) (l0 + x) < R rk (arrOf st1) (l0 + x - 1)
    · rw [decide_eq_true w, if_pos rfl]
      have fin : ∀ st2, Within st st2 l0 q0 → (∀ k, R rk (arrOf st2) k = R rk (arrOf st1) k) → ∃ eq', ((none, x + 1, 0) : Option (Option Nat) × Nat × Nat) = (none, x + 1, eq') ∧ Within st st2 l0 q0 ∧ DecT rk (arrOf st2) l0 (x + 1) ∧ eq' + 1 ≤ x + 1 ∧ ∀ k, x + 1 - 1 - eq' ≤ k → k < x + 1 → R rk (arrOf st2) (l0 + k) = R rk (arrOf st2) (l0 + (x + 1 - 1)) := fun st2 W2 r2 => by
        refine ⟨0, rfl, W2, fun i j hij hj => ?_, by omega, fun k h1 h2 => by rw [show k = x + 1 - 1 by omega]⟩
        rw [r2, r2]
        exact d1.snoc (by omega) (by omega) i j hij hj
      by_cases z : eq > 0
      · rw [if_pos z]
        refine wpS_bind (wp_revEq (rk := rk) (lo := l0) (n := q0) (by omega) (by omega) (by omega) (fun k h1 h2 => ?_) fun st2 W2 r2 => wpS_pure (fin st2 (W.trans W2) r2))
        have := ev (k - l0) (by omega) (by omega)
        rw [show l0 + (k - l0) = k by omega, show l0 + (x - 1) = l0 + x - 1 by omega] at this
        exact this
      · rw [if_neg z]
        exact wpS_pure (fin st1 W fun _ => rfl)
    · rw [decide_eq_false w, if_neg (by simp)]
      refine wpS_bind (wp_ltAt L hk1 hS1 (by omega) (by omega) ?_)
      dsimp only
      by_cases v : R rk (arrOf st1) (l0 + x - 1) < R rk (arrOf st1) (l0 + x)
      · rw [decide_eq_true v, if_pos rfl]
        exact wpS_pure ⟨x, eq, rfl, hx1, by omega, W, d1, e1, ev⟩
      · rw [decide_eq_false v, if_neg (by simp)]
        have ee : R rk (arrOf st1) (l0 + x) = R rk (arrOf st1) (l0 + x - 1) := by omega
        refine wpS_pure ⟨eq + 1, rfl, W, d1.snoc (by omega) (by omega), by omega, fun k h1 h2 => ?_⟩
        rw [show l0 + (x + 1 - 1) = l0 + x by omega]
        by_cases y : k = x
        · rw [y]
        · have := ev k (by omega) (by omega)
          rw [show l0 + (x - 1) = l0 + x - 1 by omega] at this
          omega
  · rintro c st1 ⟨eq, rfl, W, d1, e1, ev⟩
    rw [Nat.max_eq_right h2] at d1 e1 ev ⊢
    exact ⟨q0, eq, rfl, h2, Nat.le_refl _, W, d1, e1, ev⟩
  · rintro c st1 ⟨n, eq, rfl, g1, g2, W, d1, e1, ev⟩
    have sz1 := W.kp.size
    dsimp only
    by_cases z : eq > 0
    · rw [if_pos z]
      refine wpS_bind (wp_revEq (rk := rk) (lo := l0) (n := q0) (by omega) (by omega) (by omega) (fun k h1 h2 => ?_) fun st2 W2 r2 => ?_)
      · have := ev (k - l0) (by omega) (by omega)
        rw [show l0 + (k - l0) = k by omega, show l0 + (n - 1) = l0 + n - 1 by omega] at this
        exact this
      · refine wp_crTail L ((W.trans W2).kp.k.trans hk) (hS.kp (W.trans W2).kp) (by rw [(W.trans W2).kp.size]; exact hsz) (by omega) g2 (fun i j hij hj => by rw [r2, r2]; exact d1 i j hij hj) fun m st3 k1 k2 W3 s3 => h m st3 (by omega) k2 ((W.trans W2).trans W3) s3
    · rw [if_neg z]
      exact wp_crTail L (W.kp.k.trans hk) (hS.kp W.kp) (by rw [sz1]; exact hsz) (by omega) g2 d1 fun m st3 k1 k2 W3 s3 => h m st3 (by omega) k2 (W.trans W3) s3
theorem wp_countRun {l0 q0 : Nat} {st : SortSt} {Q : Option Nat → SortSt → Prop} (L : LtOk M A E s kd rk S) (hk : kindOf st = kd) (hS : AllS S st) (hsz : l0 + q0 ≤ (arrOf st).size) (h1 : 1 ≤ q0) (hr : ∀ x, wpAny M A (rule x) (fun _ s' => s' = s) E s)
    (h : ∀ n st', 1 ≤ n → n ≤ q0 → Within st st' l0 q0 → SrtT rk (arrOf st') l0 n → Q (some n) st') : wpS M A E s (countRun' l0 q0) Q st := by
  rw [cr_eq]
  dsimp only
  refine wpS_bind (wpS_mono (wpS_forRange (I := fun x c st' => st' = st ∧ c = (none, x) ∧ SrtT rk (arrOf st) l0 x) (Q := fun c st' => st' = st ∧ ∃ n, c = (none, n) ∧ 1 ≤ n ∧ n ≤ q0 ∧ SrtT rk (arrOf st) l0 n ∧ (n = q0 ∨ R rk (arrOf st) (l0 + n) < R rk (arrOf st) (l0 + n - 1))) ?_ ?_ ⟨rfl, rfl, fun i j h1 h2 => by rw [show i = j by omega]; exact Nat.le_refl _⟩) ?_)
  · rintro x c st1 hx1 hx2 ⟨rfl, rfl, s1⟩
    dsimp only
    refine wpS_bind (wp_ltAt L hk hS (by omega) (by omega) ?_)
    dsimp only
    by_cases w : R rk (arrOf st1) (l0 + x) < R rk (arrOf st1) (l0 + x - 1)
    · rw [decide_eq_true w, if_pos rfl]
      exact wpS_pure ⟨rfl, x, rfl, hx1, by omega, s1, .inr w⟩
    · rw [decide_eq_false w, if_neg (by simp)]
      exact wpS_pure ⟨rfl, rfl, s1.snoc (by omega) (by omega)⟩
  · rintro c st1 ⟨rfl, rfl, s1⟩
    rw [Nat.max_eq_right h1] at s1 ⊢
    exact ⟨rfl, q0, rfl, h1, Nat.le_refl _, s1, .inl rfl⟩
  · rintro c st1 ⟨rfl, n, rfl, g1, g2, g3, g4⟩
    dsimp only
    by_cases e : n = q0
    · rw [if_pos (by rw [e]; exact beq_self_eq_true _)]
      exact wpS_pure (h n st1 g1 g2 .rfl' g3)
    rw [if_neg (by simpa using e)]
    have lt := g4.resolve_left e
    by_cases z : n > 1
    · rw [if_pos z]
      refine wpS_bind (wp_ltAt L hk hS (by omega) (by omega) ?_)
      dsimp only
      by_cases w : R rk (arrOf st1) l0 < R rk (arrOf st1) (l0 + n - 1)
      · rw [decide_eq_true w, if_pos rfl]
        exact wpS_pure (h n st1 g1 g2 .rfl' g3)
      · rw [decide_eq_false w, if_neg (by simp)]
        have all : ∀ k, l0 ≤ k → k < l0 + n → R rk (arrOf st1) k = R rk (arrOf st1) (l0 + n - 1) := fun k h1 h2 => by
          have a := g3 0 (k - l0) (Nat.zero_le _) (by omega)
          have b := g3 (k - l0) (n - 1) (by omega) (by omega)
          rw [show l0 + (k - l0) = k by omega] at a b
          rw [show l0 + (n - 1) = l0 + n - 1 by omega] at b
          rw [Nat.add_zero] at a
          omega
        refine wpS_bind (wp_revEq (rk := rk) (lo := l0) (n := q0) (Nat.le_refl _) (by omega) (by omega) all fun st2 W2 r2 => ?_)
        refine wp_crDesc L (W2.kp.k.trans hk) (hS.kp W2.kp) (by rw [W2.kp.size]; exact hsz) (by omega) (fun i j hij hj => ?_) hr fun m st3 k1 k2 W3 s3 => h m st3 k1 k2 (W2.trans W3) s3
        rw [r2, r2]
        by_cases y : j < n
        · rw [all (l0 + i) (by omega) (by omega), all (l0 + j) (by omega) (by omega)]
          exact Nat.le_refl _
        · rw [show j = n by omega]
          by_cases y2 : i < n
          · rw [all (l0 + i) (by omega) (by omega)]; exact Nat.le_of_lt lt
          · rw [show i = n by omega]; exact Nat.le_refl _
    · rw [if_neg z]
      have n1 : n = 1 := by omega
      subst n1
      refine wp_crDesc L hk hS hsz (by omega) (fun i j hij hj => ?_) hr fun m st3 k1 k2 W3 s3 => h m st3 k1 k2 W3 s3
      by_cases y : i = j
      · rw [y]; exact Nat.le_refl _
      · rw [show i = 0 by omega, show j = 1 by omega]
        exact Nat.le_of_lt lt
end
end ZS

namespace ZS
open PySem PyProof.Rows
def wrote (xs : Array Keyed) (q : Nat) (ys : Array Keyed) : Array Keyed := ys.toList.zipIdx.foldl (fun u (p, j) => u.setIfInBounds (q + j) p) xs
theorem mAt_eq (i : Nat) : mergeAt' i = (do
  let st ← get
  let (some (s1, n1, pw), some (s2, n2, _)) := ((pendingOf st)[i]?, (pendingOf st)[i + 1]?) | unsupported "internal:list.sort.pending"
  set (SortSt.mk' (kindOf st) (arrOf st) (((pendingOf st).setIfInBounds i (s1, n1 + n2, pw)).eraseIdxIfInBounds (i + 1)) (gallopOf st) (failedOf st))
  let some k ← gal false (← elem' (arrOf st) s2) (arrOf st) s1 n1 0 | return false
  let (s1, n1) := (s1 + k, n1 - k)
  if n1 == 0 then return true
  let some n2 ← gal true (← elem' (arrOf st) (s1 + n1 - 1)) (arrOf st) s2 n2 (n2 - 1) | return false
  if n2 == 0 then return true
  let x := (arrOf st).extract s1 s2
  let y := (arrOf st).extract s2 (s2 + n2)
  let mm ← if n1 ≤ n2 then mLo x y else mHi x y
  modify fun z => setArr z (wrote (arrOf z) s1 mm)
  return (failedOf (← get)).isNone) := rfl
theorem wrote_aux (q : Nat) : ∀ (l : List Keyed) (n : Nat) (xs : Array Keyed), q + n + l.length ≤ xs.size → ((l.zipIdx n).foldl (fun u (p, j) => u.setIfInBounds (q + j) p) xs).toList = xs.toList.take (q + n) ++ (l ++ xs.toList.drop (q + n + l.length))
  | [], n, xs, _ => by
    simp
  | p :: t, n, xs, h => by
    rw [List.length_cons] at h
    rw [List.zipIdx_cons, List.foldl_cons, wrote_aux q t (n + 1) _ (by rw [Array.size_setIfInBounds]; omega), Array.toList_setIfInBounds]
    have hl : q + n < xs.toList.length := by rw [Array.length_toList]; omega
    rw [show q + (n + 1) = q + n + 1 by omega, List.take_add_one, List.take_set_of_le (Nat.le_refl _), List.getElem?_set_self hl, List.drop_set_of_lt (by omega), List.length_cons, show q + n + 1 + t.length = q + n + (t.length + 1) by omega]
    simp
theorem wrote_list {xs ys : Array Keyed} {q : Nat} (h : q + ys.size ≤ xs.size) : (wrote xs q ys).toList = xs.toList.take q ++ (ys.toList ++ xs.toList.drop (q + ys.size)) := by
  have := wrote_aux q ys.toList 0 xs (by rw [Array.length_toList]; exact h)
  rw [Array.length_toList] at this
  exact this
theorem tail_get {a b c : List Keyed} {i : Nat} (h : a.length = b.length) (hi : a.length ≤ i) : (a ++ c)[i]? = (b ++ c)[i]? := by rw [List.getElem?_append_right hi, List.getElem?_append_right (by omega), h]
section
variable {rk : Keyed → Nat}
theorem R_get {xs : Array Keyed} {i : Nat} {p : Keyed} (h : xs.toList[i]? = some p) : R rk xs i = rk p := by
  unfold R
  rw [← Array.getElem?_toList, h]
theorem srt_list {xs : Array Keyed} {lo n : Nat} (h : SrtT rk xs lo n) : Srt rk ((xs.toList.drop lo).take n) := by
  refine List.pairwise_iff_getElem.mpr fun i j hi hj hij => ?_
  have hj' : j < n := by rw [List.length_take] at hj; omega
  have ei := List.getElem?_eq_getElem hi
  have ej := List.getElem?_eq_getElem hj
  rw [List.getElem?_take, if_pos (by omega), List.getElem?_drop] at ei ej
  have := h i j (by omega) hj'
  rw [R_get ei, R_get ej] at this
  exact this
theorem list_srt {xs : Array Keyed} {lo n : Nat} (hn : lo + n ≤ xs.size) (h : Srt rk ((xs.toList.drop lo).take n)) : SrtT rk xs lo n := by
  intro i j hij hj
  by_cases e : i = j
  · rw [e]; exact Nat.le_refl _
  have len : ((xs.toList.drop lo).take n).length = n := by rw [List.length_take, List.length_drop, Array.length_toList]; omega
  have hi' : i < ((xs.toList.drop lo).take n).length := by omega
  have hj' : j < ((xs.toList.drop lo).take n).length := by omega
  have := List.pairwise_iff_getElem.mp h i j hi' hj' (by omega)
  have ei := List.getElem?_eq_getElem hi'
  have ej := List.getElem?_eq_getElem hj'
  rw [List.getElem?_take, if_pos (by omega), List.getElem?_drop] at ei ej
  rw [R_get ei, R_get ej]
  exact this
theorem srt_join {xs : Array Keyed} {lo n m : Nat} (h1 : SrtT rk xs lo n) (h2 : SrtT rk xs (lo + n) m) (h : ∀ i j, i < n → j < m → R rk xs (lo + i) ≤ R rk xs (lo + n + j)) : SrtT rk xs lo (n + m) := by
  intro i j hij hj
  by_cases z : j < n
  · exact h1 i j hij z
  · by_cases w : i < n
    · have := h i (j - n) w (by omega)
      rw [show lo + n + (j - n) = lo + j by omega] at this
      exact this
    · have := h2 (i - n) (j - n) (by omega) (by omega)
      rw [show lo + n + (j - n) = lo + j by omega, show lo + n + (i - n) = lo + i by omega] at this
      exact this
theorem cut_part {T : List Keyed} {lo k n : Nat} (h : k ≤ n) : (T.drop lo).take n = (T.drop lo).take k ++ (T.drop (lo + k)).take (n - k) := by
  conv => lhs; rw [show n = k + (n - k) by omega, List.take_add, List.drop_drop]
/-- the array behind a merge of the middle -/
theorem merged {xs r : Array Keyed} {lo k n m c : Nat} (hk : k ≤ n) (hc : c ≤ m) (hsz : lo + n + m ≤ xs.size) (o1 : SrtT rk xs lo n) (o2 : SrtT rk xs (lo + n) m)
    (a1 : ∀ p ∈ (xs.toList.drop lo).take k, ∀ q ∈ (xs.toList.drop (lo + n)).take m, rk p ≤ rk q) (a2 : ∀ p ∈ (xs.toList.drop lo).take n, ∀ q ∈ (xs.toList.drop (lo + n + c)).take (m - c), rk p ≤ rk q)
    (hr : Res rk ((xs.toList.drop (lo + k)).take (n - k)) ((xs.toList.drop (lo + n)).take c) r.toList) :
    (wrote xs (lo + k) r).Perm xs ∧ (∀ i, (i < lo ∨ lo + n + m ≤ i) → (wrote xs (lo + k) r)[i]? = xs[i]?) ∧ SrtT rk (wrote xs (lo + k) r) lo (n + m) := by
  have lr : r.size = n - k + c := by
    have := hr.1.length_eq
    rw [List.length_append, List.length_take, List.length_take, List.length_drop, List.length_drop, Array.length_toList, Array.length_toList] at this
    omega
  have wl : (wrote xs (lo + k) r).toList = xs.toList.take lo ++ ((xs.toList.drop lo).take k ++ (r.toList ++ ((xs.toList.drop (lo + n + c)).take (m - c) ++ xs.toList.drop (lo + n + m)))) := by
    rw [wrote_list (by omega), List.take_add, List.append_assoc, lr, show lo + k + (n - k + c) = lo + n + c by omega]
    congr 3
    have := (List.take_append_drop (m - c) (xs.toList.drop (lo + n + c))).symm
    rw [List.drop_drop, show lo + n + c + (m - c) = lo + n + m by omega] at this
    exact this
  have xl : xs.toList = xs.toList.take lo ++ ((xs.toList.drop lo).take k ++ ((xs.toList.drop (lo + k)).take (n - k) ++ (xs.toList.drop (lo + n)).take c ++ ((xs.toList.drop (lo + n + c)).take (m - c) ++ xs.toList.drop (lo + n + m)))) := by
    have e1 := (List.take_append_drop lo xs.toList).symm
    have e2 := (List.take_append_drop k (xs.toList.drop lo)).symm
    have e3 := (List.take_append_drop (n - k) (xs.toList.drop (lo + k))).symm
    have e4 := (List.take_append_drop c (xs.toList.drop (lo + n))).symm
    have e5 := (List.take_append_drop (m - c) (xs.toList.drop (lo + n + c))).symm
    rw [List.drop_drop] at e2 e3 e4 e5
    rw [show lo + k + (n - k) = lo + n by omega] at e3
    rw [show lo + n + c + (m - c) = lo + n + m by omega] at e5
    rw [List.append_assoc, ← e5, ← e4, ← e3, ← e2, ← e1]
  have sz : (wrote xs (lo + k) r).size = xs.size := by
    have := congrArg List.length wl
    have h2 := congrArg List.length xl
    have h3 := hr.1.length_eq
    simp only [List.length_append] at this h2 h3
    have e1 := @Array.length_toList _ (wrote xs (lo + k) r)
    have e2 := @Array.length_toList _ xs
    omega
  have X : (xs.toList.drop lo).take n = (xs.toList.drop lo).take k ++ (xs.toList.drop (lo + k)).take (n - k) := cut_part hk
  have Y : (xs.toList.drop (lo + n)).take m = (xs.toList.drop (lo + n)).take c ++ (xs.toList.drop (lo + n + c)).take (m - c) := cut_part hc
  have sX := srt_list o1
  have sY := srt_list o2
  rw [X] at sX
  rw [Y] at sY
  obtain ⟨sx1, sx2, sx⟩ := List.pairwise_append.mp sX
  obtain ⟨sy1, sy2, sy⟩ := List.pairwise_append.mp sY
  refine ⟨Array.perm_iff_toList_perm.mpr ?_, fun i hi => ?_, list_srt (by omega) ?_⟩
  · rw [wl]
    conv => rhs; rw [xl]
    exact List.Perm.append_left _ (List.Perm.append_left _ (List.Perm.append_right _ hr.1))
  · rw [← Array.getElem?_toList, ← Array.getElem?_toList, wl]
    conv => rhs; rw [xl]
    have hl1 : (xs.toList.take lo).length = lo := by rw [List.length_take, Array.length_toList]; omega
    rcases hi with hi | hi
    · rw [List.getElem?_append_left (by omega), List.getElem?_append_left (by omega)]
    · have hl2 : ((xs.toList.drop lo).take k).length = k := by rw [List.length_take, List.length_drop, Array.length_toList]; omega
      have hl3 : r.toList.length = n - k + c := by rw [Array.length_toList]; exact lr
      have hl4 := hr.1.length_eq
      rw [← List.append_assoc, ← List.append_assoc]
      conv => rhs; rw [← List.append_assoc, ← List.append_assoc]
      refine tail_get ?_ ?_
      · rw [List.length_append, List.length_append, List.length_append, List.length_append, hl4]
      · rw [List.length_append, List.length_append, hl1, hl2, hl3]; omega
  · have hl1 : (xs.toList.take lo).length = lo := by rw [List.length_take, Array.length_toList]; omega
    have e : ((wrote xs (lo + k) r).toList.drop lo).take (n + m) = (xs.toList.drop lo).take k ++ (r.toList ++ (xs.toList.drop (lo + n + c)).take (m - c)) := by
      rw [wl, List.drop_left' hl1, ← List.append_assoc, ← List.append_assoc, List.take_left', List.append_assoc]
      rw [List.length_append, List.length_append, List.length_take, List.length_take, List.length_drop, List.length_drop, Array.length_toList, Array.length_toList]
      omega
    rw [e]
    have mr : ∀ q ∈ r.toList, q ∈ (xs.toList.drop (lo + k)).take (n - k) ∨ q ∈ (xs.toList.drop (lo + n)).take c := fun q hq => List.mem_append.mp (hr.1.mem_iff.mp hq)
    refine List.pairwise_append.mpr ⟨sx1, List.pairwise_append.mpr ⟨hr.2, sy2, fun p hp q hq => ?_⟩, fun p hp q hq => ?_⟩
    · rcases mr p hp with hp | hp
      · exact a2 p (by rw [X]; exact List.mem_append_right _ hp) q hq
      · exact sy p hp q hq
    · rcases List.mem_append.mp hq with hq | hq
      · rcases mr q hq with hq | hq
        · exact sx p hp q hq
        · exact a1 p hp q (by rw [Y]; exact List.mem_append_left _ hq)
      · exact a1 p hp q (by rw [Y]; exact List.mem_append_right _ hq)
end
end ZS

namespace ZS
open PySem PyProof.Rows
theorem pend_at {α : Type} {ps : Array α} {pre post : List α} {x y : α} (h : ps.toList = pre ++ x :: y :: post) : ps[pre.length]? = some x ∧ ps[pre.length + 1]? = some y := by
  rw [← Array.getElem?_toList, ← Array.getElem?_toList, h]
  constructor
  · rw [List.getElem?_append_right (Nat.le_refl _), Nat.sub_self]; rfl
  · rw [List.getElem?_append_right (by omega), Nat.add_sub_cancel_left]; rfl
theorem pend_join {α : Type} {ps : Array α} {pre post : List α} {x y z : α} (h : ps.toList = pre ++ x :: y :: post) : ((ps.setIfInBounds pre.length z).eraseIdxIfInBounds (pre.length + 1)).toList = pre ++ z :: post := by
  have hs : ps.size = pre.length + (post.length + 2) := by rw [← Array.length_toList, h, List.length_append]; rfl
  have hb : pre.length + 1 < (ps.setIfInBounds pre.length z).size := by rw [Array.size_setIfInBounds]; omega
  unfold Array.eraseIdxIfInBounds
  rw [dif_pos hb, Array.toList_eraseIdx, Array.toList_setIfInBounds, h]
  rw [List.set_append_right _ _ (Nat.le_refl _), Nat.sub_self, List.set_cons_zero, List.eraseIdx_append_of_length_le (by omega), Nat.add_sub_cancel_left]
  rfl
section
variable {M : Model} {A : Around} {E : Value → Shared → Prop} {s : Shared} {kd : SortKind} {rk : Keyed → Nat} {S : Keyed → Prop}
theorem wp_put {σ : Type} {v st : σ} {Q : PUnit → σ → Prop} (q : Q ⟨⟩ v) : wpS M A E s (set v : StateT σ Sem PUnit) Q st := by
  unfold wpS
  rw [StateT.run_set]
  exact wpAny_pure ⟨rfl, q⟩
/-- how two neighbours are put together -/
structure Mgd (rk : Keyed → Nat) (st st' : SortSt) (lo n : Nat) (ps : List (Nat × Nat × Nat)) : Prop where
  k : kindOf st' = kindOf st
  f : failedOf st' = none
  p : (pendingOf st').toList = ps
  a : (arrOf st').Perm (arrOf st)
  out : ∀ i, (i < lo ∨ lo + n ≤ i) → (arrOf st')[i]? = (arrOf st)[i]?
  srt : SrtT rk (arrOf st') lo n
theorem wp_mAt {pre post : List (Nat × Nat × Nat)} {s1 n1 pw n2 p2 : Nat} {st : SortSt} {Q : Bool → SortSt → Prop} (L : LtOk M A E s kd rk S) (hk : kindOf st = kd) (hS : AllS S st) (hf : failedOf st = none) (hr : ∀ x, wpAny M A (rule x) (fun _ s' => s' = s) E s)
    (hp : (pendingOf st).toList = pre ++ (s1, n1, pw) :: (s1 + n1, n2, p2) :: post) (h1 : 1 ≤ n1) (h2 : 1 ≤ n2) (hsz : s1 + n1 + n2 ≤ (arrOf st).size) (o1 : SrtT rk (arrOf st) s1 n1) (o2 : SrtT rk (arrOf st) (s1 + n1) n2)
    (h : ∀ st', Mgd rk st st' s1 (n1 + n2) (pre ++ (s1, n1 + n2, pw) :: post) → Q true st') : wpS M A E s (mergeAt' pre.length) Q st := by
  rw [mAt_eq]
  refine wpS_bind (wpS_get ?_)
  dsimp only
  obtain ⟨e1, e2⟩ := pend_at hp
  rw [e1, e2]
  dsimp only
  refine wpS_bind (wp_put ?_)
  generalize hst1 : SortSt.mk' (kindOf st) (arrOf st) (((pendingOf st).setIfInBounds pre.length (s1, n1 + n2, pw)).eraseIdxIfInBounds (pre.length + 1)) (gallopOf st) (failedOf st) = st1
  have k1 : kindOf st1 = kd := by rw [← hst1]; exact hk
  have a1 : arrOf st1 = arrOf st := by rw [← hst1]
  have f1 : failedOf st1 = none := by rw [← hst1]; exact hf
  have p1 : (pendingOf st1).toList = pre ++ (s1, n1 + n2, pw) :: post := by rw [← hst1]; exact pend_join hp
  have SA : ∀ (i : Nat) p, (arrOf st)[i]? = some p → S p := fun i p e => hS.at e
  have gt : ∀ i, i < (arrOf st).size → ∃ p, (arrOf st)[i]? = some p := fun i hi => ⟨_, Array.getElem?_eq_getElem hi⟩
  have RR : ∀ {i : Nat} {p : Keyed}, (arrOf st)[i]? = some p → R rk (arrOf st) i = rk p := fun {i p} e => by unfold R; rw [e]
  obtain ⟨ky, hky⟩ := gt (s1 + n1) (by omega)
  have stay : SrtT rk (arrOf st) s1 (n1 + n2) → Q true st1 := fun z => h st1 ⟨k1.trans hk.symm, f1, p1, by rw [a1], fun i _ => by rw [a1], by rw [a1]; exact z⟩
  refine wpS_bind (wp_elem hky (wpS_bind (wp_gal2 L k1 (by omega) (by omega) SA (SA _ _ hky) (fun i j p q hij hj hp hq => ?_) fun k hk1 g1 g2 => ?_)))
  · have := o1 i j hij hj
    rw [RR hp, RR hq] at this
    exact this
  dsimp only
  have below : ∀ i, i < k → ∀ j, j < n2 → R rk (arrOf st) (s1 + i) ≤ R rk (arrOf st) (s1 + n1 + j) := fun i hi j hj => by
    obtain ⟨p, hp⟩ := gt (s1 + i) (by omega)
    have a := g1 i p hi hp
    rw [if_neg (by simp)] at a
    have b := o2 0 j (Nat.zero_le _) hj
    rw [Nat.add_zero, RR hky] at b
    rw [RR hp]
    exact Nat.le_trans a b
  by_cases z : n1 - k = 0
  · rw [if_pos (by rw [z]; rfl)]
    exact wpS_pure (stay (srt_join o1 o2 fun i j hi hj => below i (by omega) j hj))
  rw [if_neg (by simpa using z)]
  obtain ⟨la, hla⟩ := gt (s1 + n1 - 1) (by omega)
  rw [show s1 + k + (n1 - k) - 1 = s1 + n1 - 1 by omega]
  refine wpS_bind (wp_elem hla (wpS_bind (wp_gal2 L k1 (by omega) (by omega) SA (SA _ _ hla) (fun i j p q hij hj hp hq => ?_) fun c hc1 d1 d2 => ?_)))
  · have := o2 i j hij hj
    rw [RR hp, RR hq] at this
    exact this
  dsimp only
  have above : ∀ i, i < n1 → ∀ j, c ≤ j → j < n2 → R rk (arrOf st) (s1 + i) ≤ R rk (arrOf st) (s1 + n1 + j) := fun i hi j hj hj2 => by
    obtain ⟨p, hp⟩ := gt (s1 + n1 + j) (by omega)
    have a := d2 j p hj hj2 hp
    rw [if_pos rfl] at a
    have b := o1 i (n1 - 1) (by omega) (by omega)
    rw [show s1 + (n1 - 1) = s1 + n1 - 1 by omega, RR hla] at b
    rw [RR hp]
    exact Nat.le_trans b a
  by_cases w : c = 0
  · rw [if_pos (by rw [w]; rfl)]
    exact wpS_pure (stay (srt_join o1 o2 fun i j hi hj => above i hi j (by omega) hj))
  rw [if_neg (by simpa using w)]
  have ex : ((arrOf st).extract (s1 + k) (s1 + n1)).toList = ((arrOf st).toList.drop (s1 + k)).take (n1 - k) := by
    have := ext_part (arrOf st) (s1 + k) (n1 - k)
    rw [show s1 + k + (n1 - k) = s1 + n1 by omega] at this
    exact this
  have ey := ext_part (arrOf st) (s1 + n1) c
  have zx : ((arrOf st).extract (s1 + k) (s1 + n1)).size = n1 - k := by rw [Array.size_extract]; omega
  have zy : ((arrOf st).extract (s1 + n1) (s1 + n1 + c)).size = c := by rw [Array.size_extract]; omega
  have T2 : ∀ {i : Nat} {p : Keyed}, (arrOf st).toList[i]? = some p → (arrOf st)[i]? = some p := fun {i p} e => by rw [Array.getElem?_toList] at e; exact e
  have sX := srt_list o1
  have sY := srt_list o2
  rw [cut_part hk1] at sX
  rw [cut_part hc1] at sY
  have H : LoOk rk S ((arrOf st).extract (s1 + k) (s1 + n1)) ((arrOf st).extract (s1 + n1) (s1 + n1 + c)) := by
    refine ⟨by rw [ex]; exact (List.pairwise_append.mp sX).2.1, by rw [ey]; exact (List.pairwise_append.mp sY).1, fun i p e => ?_, fun i p e => ?_, by omega, by omega, fun p e u hu => ?_, fun p e u hu => ?_⟩
    · rw [Array.getElem?_extract] at e
      split at e
      · exact SA _ _ e
      · cases e
    · rw [Array.getElem?_extract] at e
      split at e
      · exact SA _ _ e
      · cases e
    · rw [Array.getElem?_extract, if_pos (by omega), Nat.add_zero, hky] at e
      cases e
      rw [ex] at hu
      obtain ⟨j, hj, ej⟩ := mem_part hu
      have := g2 (k + j) u (by omega) (by omega) (by rw [← Nat.add_assoc]; exact T2 ej)
      rw [if_neg (by simp)] at this
      exact Nat.le_of_lt this
    · rw [zx, Array.getElem?_extract, if_pos (by omega), show s1 + k + (n1 - k - 1) = s1 + n1 - 1 by omega, hla] at e
      cases e
      rw [ey] at hu
      obtain ⟨j, hj, ej⟩ := mem_part hu
      have := d1 j u hj (T2 ej)
      rw [if_pos rfl] at this
      exact Nat.le_of_lt this
  have fin : ∀ r st2, Keep st1 st2 → Res rk ((arrOf st).extract (s1 + k) (s1 + n1)).toList ((arrOf st).extract (s1 + n1) (s1 + n1 + c)).toList r.toList → wpS M A E s (do
      modify fun z => setArr z (wrote (arrOf z) (s1 + k) r)
      let g ← get
      pure (failedOf g).isNone : StateT SortSt Sem Bool) Q st2 := fun r st2 K hres => by
    rw [ex, ey] at hres
    refine wpS_bind (wpS_modify (wpS_bind (wpS_get (wpS_pure ?_))))
    have hf2 : failedOf st2 = none := K.f.trans f1
    have aa : arrOf st2 = arrOf st := K.a.trans a1
    have q1 : ∀ p ∈ ((arrOf st).toList.drop s1).take k, ∀ q ∈ ((arrOf st).toList.drop (s1 + n1)).take n2, rk p ≤ rk q := fun p hp q hq => by
      obtain ⟨i, hi, ei⟩ := mem_part hp
      obtain ⟨j, hj, ej⟩ := mem_part hq
      have := below i hi j hj
      rw [RR (T2 ei), RR (T2 ej)] at this
      exact this
    have q2 : ∀ p ∈ ((arrOf st).toList.drop s1).take n1, ∀ q ∈ ((arrOf st).toList.drop (s1 + n1 + c)).take (n2 - c), rk p ≤ rk q := fun p hp q hq => by
      obtain ⟨i, hi, ei⟩ := mem_part hp
      obtain ⟨j, hj, ej⟩ := mem_part hq
      have := above i hi (c + j) (by omega) (by omega)
      rw [← Nat.add_assoc, RR (T2 ei), RR (T2 ej)] at this
      exact this
    obtain ⟨m1, m2, m3⟩ := merged (rk := rk) (xs := arrOf st) (r := r) (lo := s1) (k := k) (n := n1) (m := n2) (c := c) hk1 hc1 (by omega) o1 o2 q1 q2 hres
    · rw [show (failedOf (setArr st2 (wrote (arrOf st2) (s1 + k) r))).isNone = true by show (failedOf st2).isNone = true; rw [hf2]; rfl]
      refine h _ ⟨K.k.trans (k1.trans hk.symm), hf2, ?_, ?_, fun i hi => ?_, ?_⟩
      · show (pendingOf st2).toList = _
        rw [K.p]
        exact p1
      · show (wrote (arrOf st2) (s1 + k) r).Perm _
        rw [aa]
        exact m1
      · show (wrote (arrOf st2) (s1 + k) r)[i]? = _
        rw [aa]
        exact m2 i (by omega)
      · show SrtT rk (wrote (arrOf st2) (s1 + k) r) _ _
        rw [aa]
        exact m3
  by_cases v : n1 - k ≤ c
  · rw [if_pos v]
    exact wpS_bind (wp_mLo L H k1 fin hr)
  · rw [if_neg v]
    exact wpS_bind (wp_mHi L H k1 fin hr)
end
end ZS

namespace ZS
open PySem PyProof.Rows
abbrev CS := Option Unit × Unit
abbrev LS := Option Unit × Nat
def colStep (w0 : Nat) : StateT SortSt Sem (ForInStep CS) := do
  let g ← get
  match (if (pendingOf g).size > 1 then (pendingOf g)[(pendingOf g).size - 2]? else none) with
  | some (_, _, old) =>
    if old ≤ w0 then pure (ForInStep.done (none, ()))
    else do
      let b ← mergeAt' ((pendingOf g).size - 2)
      if (!b) = true then pure (ForInStep.done (some (), ())) else pure (ForInStep.yield (none, ()))
  | _ => pure (ForInStep.done (none, ()))
def addRun (q0 n : Nat) : StateT SortSt Sem (ForInStep LS) := do
  modify fun z => setPending z ((pendingOf z).push (q0, n, 0))
  pure (ForInStep.yield (none, q0 + n))
def tl (sz q0 n : Nat) : StateT SortSt Sem (ForInStep LS) := do
  let g ← get
  match (pendingOf g).back? with
  | some (s1, n1, _) => do
    let c ← forIn [0:sz] ((none, ()) : CS) fun _ _ => colStep (power' sz (2 * s1 + n1) (2 * s1 + n1 + n1 + n) sz)
    match c.1 with
    | some r => pure (ForInStep.done (some r, q0))
    | none => do
      modify fun z => setPending z ((pendingOf z).modify ((pendingOf z).size - 1) fun x => (x.1, x.2.1, power' sz (2 * s1 + n1) (2 * s1 + n1 + n1 + n) sz))
      addRun q0 n
  | _ => addRun q0 n
def mainStep (sz q0 : Nat) : StateT SortSt Sem (ForInStep LS) :=
  if q0 ≥ sz then pure (ForInStep.done (none, q0)) else do
    let f ← countRun' q0 (sz - q0)
    match f with
    | some n =>
      if n < minRun' sz sz 0 then do
        rule "list.sort.binary-insertion"
        let b ← binarySort' q0 (min (sz - q0) (minRun' sz sz 0)) n
        if (!b) = true then pure (ForInStep.done (some (), q0)) else tl sz q0 (min (sz - q0) (minRun' sz sz 0))
      else tl sz q0 n
    | _ => pure (ForInStep.done (some (), q0))
def pick (ps : Array (Nat × Nat × Nat)) : Nat :=
  if Option.any (fun x => decide (x < ps[ps.size - 2 + 1]?.elim 0 fun y => y.2.1)) (if ps.size - 2 > 0 then Option.map (fun y => y.2.1) ps[ps.size - 2 - 1]? else none) = true then ps.size - 2 - 1 else ps.size - 2
def finStep : StateT SortSt Sem (ForInStep CS) := do
  let g ← get
  if (pendingOf g).size ≤ 1 then pure (ForInStep.done (none, ()))
  else do
    let b ← mergeAt' (pick (pendingOf g))
    if (!b) = true then pure (ForInStep.done (some (), ())) else pure (ForInStep.yield (none, ()))
theorem sr_eq : sortRuns' = (do
  let g ← get
  let c ← forIn [0:(arrOf g).size] ((none, 0) : LS) fun _ c => mainStep (arrOf g).size c.2
  match c.1 with
  | some r => pure r
  | none => do
    let d ← forIn [0:(arrOf g).size] ((none, ()) : CS) fun _ _ => finStep
    match d.1 with
    | some r => pure r
    | none => pure ()) := by
  rw [sortRuns'_eq]
  dsimp only
  refine congrArg (bind get) (funext fun g => ?_)
  refine congr (congrArg bind ?_) (funext fun c => ?_)
  · refine congrArg (forIn _ _) (funext fun _ => funext fun c => ?_)
    unfold mainStep
    refine ite_congr rfl (fun _ => rfl) (fun _ => ?_)
    refine congrArg (bind _) (funext fun f => ?_)
    cases f with
    | none => rfl
    | some n =>
      dsimp only
      refine ite_congr rfl (fun _ => congrArg (bind _) (funext fun _ => congrArg (bind _) (funext fun b => ite_congr rfl (fun _ => rfl) (fun _ => ?_)))) (fun _ => ?_)
      all_goals
        unfold tl
        refine congrArg (bind _) (funext fun g => ?_)
        generalize (pendingOf g).back? = bk
        rcases bk with _ | ⟨s1, n1, z⟩
        · rfl
        · dsimp only
          refine congr (congrArg bind ?_) (funext fun c => ?_)
          · refine congrArg (forIn _ _) (funext fun _ => funext fun c => ?_)
            unfold colStep
            refine congrArg (bind _) (funext fun g => ?_)
            generalize (if (pendingOf g).size > 1 then (pendingOf g)[(pendingOf g).size - 2]? else none) = o
            rcases o with _ | ⟨_, _, _⟩ <;> rfl
          · rcases c with ⟨_ | _, _⟩ <;> rfl
  · rcases c with ⟨_ | _, _⟩
    · dsimp only
      refine congr (congrArg bind ?_) (funext fun c => ?_)
      · rfl
      · rcases c with ⟨_ | _, _⟩ <;> rfl
    · rfl
end ZS

namespace ZS
open PySem PyProof.Rows
/-- the runs that wait: sorted, one behind the other, from a to b -/
def Pd (rk : Keyed → Nat) (xs : Array Keyed) : List (Nat × Nat × Nat) → Nat → Nat → Prop
  | [], a, b => a = b
  | (c, n, _) :: t, a, b => c = a ∧ 1 ≤ n ∧ SrtT rk xs c n ∧ Pd rk xs t (a + n) b
section
variable {rk : Keyed → Nat}
theorem Pd.le {xs : Array Keyed} : ∀ {l : List (Nat × Nat × Nat)} {a b : Nat}, Pd rk xs l a b → a + l.length ≤ b
  | [], _, _, h => Nat.le_of_eq h
  | (c, n, _) :: t, a, b, h => by
    have := h.2.2.2.le
    have := h.2.1
    rw [List.length_cons]
    omega
theorem Pd.congr {xs ys : Array Keyed} : ∀ {l : List (Nat × Nat × Nat)} {a b : Nat}, Pd rk xs l a b → (∀ i, a ≤ i → i < b → R rk ys i = R rk xs i) → Pd rk ys l a b
  | [], _, _, h, _ => h
  | (c, n, _) :: t, a, b, h, e => by
    have le := h.2.2.2.le
    have ca := h.1
    refine ⟨h.1, h.2.1, fun i j hij hj => ?_, h.2.2.2.congr fun i h1 h2 => e i (by omega) h2⟩
    rw [e _ (by omega) (by omega), e _ (by omega) (by omega)]
    exact h.2.2.1 i j hij hj
theorem Pd_append {xs : Array Keyed} : ∀ {l m : List (Nat × Nat × Nat)} {a b : Nat}, Pd rk xs (l ++ m) a b ↔ ∃ c, Pd rk xs l a c ∧ Pd rk xs m c b
  | [], m, a, b => ⟨fun h => ⟨a, rfl, h⟩, fun ⟨c, e, h⟩ => by cases (show a = c from e); exact h⟩
  | (c, n, _) :: t, m, a, b => ⟨fun h => by
      obtain ⟨d, h1, h2⟩ := Pd_append.mp h.2.2.2
      exact ⟨d, ⟨h.1, h.2.1, h.2.2.1, h1⟩, h2⟩, fun ⟨d, h, h2⟩ => ⟨h.1, h.2.1, h.2.2.1, Pd_append.mpr ⟨d, h.2.2.2, h2⟩⟩⟩
theorem Pd.modify {xs : Array Keyed} {w0 : Nat} : ∀ {l : List (Nat × Nat × Nat)} {i a b : Nat}, Pd rk xs l a b → Pd rk xs (l.modify i fun x => (x.1, x.2.1, w0)) a b
  | [], i, _, _, h => by cases i <;> exact h
  | (c, n, _) :: t, 0, a, b, h => ⟨h.1, h.2.1, h.2.2.1, h.2.2.2⟩
  | (c, n, _) :: t, i + 1, a, b, h => ⟨h.1, h.2.1, h.2.2.1, h.2.2.2.modify⟩
theorem two_of {α : Type} : ∀ {l : List α} {i : Nat}, i + 1 < l.length → ∃ pre x y post, l = pre ++ x :: y :: post ∧ pre.length = i
  | x :: y :: t, 0, _ => ⟨[], x, y, t, rfl, rfl⟩
  | [_], 0, h => absurd h (by simp)
  | x :: t, i + 1, h => by
    obtain ⟨p, a, b, q, e, f⟩ := two_of (l := t) (i := i) (by rw [List.length_cons] at h; omega)
    exact ⟨x :: p, a, b, q, by rw [e]; rfl, by rw [List.length_cons, f]⟩
  | [], _, h => absurd h (by simp)
end
section
variable {M : Model} {A : Around} {E : Value → Shared → Prop} {s : Shared} {kd : SortKind} {rk : Keyed → Nat} {S : Keyed → Prop} {a0 : Array Keyed}
structure Iv (kd : SortKind) (rk : Keyed → Nat) (a0 : Array Keyed) (q0 : Nat) (st : SortSt) : Prop where
  k : kindOf st = kd
  f : failedOf st = none
  a : (arrOf st).Perm a0
  pd : Pd rk (arrOf st) (pendingOf st).toList 0 q0
theorem Iv.all {q0 : Nat} {st : SortSt} (h : Iv kd rk a0 q0 st) (hS : ∀ p ∈ a0.toList, S p) : AllS S st := fun p hp => hS p ((Array.perm_iff_toList_perm.mp h.a).mem_iff.mp hp)
theorem wp_mStep {q0 i : Nat} {st : SortSt} {Q : Bool → SortSt → Prop} (L : LtOk M A E s kd rk S) (hS : ∀ p ∈ a0.toList, S p) (hr : ∀ x, wpAny M A (rule x) (fun _ s' => s' = s) E s) (I : Iv kd rk a0 q0 st) (hq : q0 ≤ a0.size) (hi : i + 1 < (pendingOf st).size)
    (h : ∀ st', Iv kd rk a0 q0 st' → (pendingOf st').size + 1 = (pendingOf st).size → (∀ j, q0 ≤ j → (arrOf st')[j]? = (arrOf st)[j]?) → Q true st') : wpS M A E s (mergeAt' i) Q st := by
  obtain ⟨pre, ⟨s1, n1, pw⟩, ⟨s2, n2, p2⟩, post, e, el⟩ := two_of (l := (pendingOf st).toList) (i := i) (by rw [Array.length_toList]; exact hi)
  subst el
  have P := I.pd
  rw [e] at P
  obtain ⟨c, P1, e1, k1, o1, e2, k2, o2, P3⟩ := Pd_append.mp P
  subst e1
  subst e2
  have le := P3.le
  have sz := I.a.size_eq
  refine wp_mAt L I.k (I.all hS) I.f hr e k1 k2 (by omega) o1 o2 fun st' m => ?_
  have same : ∀ j, (j < s1 ∨ s1 + n1 + n2 ≤ j) → R rk (arrOf st') j = R rk (arrOf st) j := fun j hj => R_congr (m.out j (by omega))
  refine h st' ⟨m.k.trans I.k, m.f, m.a.trans I.a, ?_⟩ ?_ fun j hj => m.out j (by omega)
  · rw [m.p]
    refine Pd_append.mpr ⟨s1, P1.congr fun j _ hj => same j (by omega), rfl, by omega, m.srt, ?_⟩
    rw [← Nat.add_assoc]
    exact P3.congr fun j hj _ => same j (by omega)
  · rw [← Array.length_toList, ← Array.length_toList, m.p, e]
    simp only [List.length_append, List.length_cons]
    omega
theorem wp_colStep {q0 w0 : Nat} {st : SortSt} {Q : ForInStep CS → SortSt → Prop} (L : LtOk M A E s kd rk S) (hS : ∀ p ∈ a0.toList, S p) (hr : ∀ x, wpAny M A (rule x) (fun _ s' => s' = s) E s) (I : Iv kd rk a0 q0 st) (hq : q0 ≤ a0.size)
    (h : ∀ st' (d : Bool), Iv kd rk a0 q0 st' → (∀ j, q0 ≤ j → (arrOf st')[j]? = (arrOf st)[j]?) → Q (if d = true then ForInStep.done (none, ()) else ForInStep.yield (none, ())) st') : wpS M A E s (colStep w0) Q st := by
  unfold colStep
  refine wpS_bind (wpS_get ?_)
  generalize ho : (if (pendingOf st).size > 1 then (pendingOf st)[(pendingOf st).size - 2]? else none) = o
  rcases o with _ | ⟨x, y, old⟩
  · exact wpS_pure (h st true I fun _ _ => rfl)
  · dsimp only
    have h1 : (pendingOf st).size > 1 := by
      by_cases z : (pendingOf st).size > 1
      · exact z
      · rw [if_neg z] at ho; cases ho
    by_cases w : old ≤ w0
    · rw [if_pos w]
      exact wpS_pure (h st true I fun _ _ => rfl)
    · rw [if_neg w]
      refine wpS_bind (wp_mStep L hS hr I hq (by omega) fun st' I' _ e => ?_)
      rw [if_neg (by simp)]
      exact wpS_pure (h st' false I' e)
theorem wp_addRun {q0 n : Nat} {st : SortSt} {Q : ForInStep LS → SortSt → Prop} (I : Iv kd rk a0 q0 st) (hn : 1 ≤ n) (o : SrtT rk (arrOf st) q0 n) (h : ∀ st', Iv kd rk a0 (q0 + n) st' → Q (ForInStep.yield (none, q0 + n)) st') : wpS M A E s (addRun q0 n) Q st := by
  unfold addRun
  refine wpS_bind (wpS_modify (wpS_pure (h _ ⟨I.k, I.f, I.a, ?_⟩)))
  show Pd rk (arrOf st) ((pendingOf st).push (q0, n, 0)).toList 0 (q0 + n)
  rw [Array.toList_push]
  exact Pd_append.mpr ⟨q0, I.pd, rfl, hn, o, rfl⟩
theorem wp_tl {q0 n : Nat} {st : SortSt} {Q : ForInStep LS → SortSt → Prop} (L : LtOk M A E s kd rk S) (hS : ∀ p ∈ a0.toList, S p) (hr : ∀ x, wpAny M A (rule x) (fun _ s' => s' = s) E s) (I : Iv kd rk a0 q0 st) (hq : q0 ≤ a0.size) (hn : 1 ≤ n) (o : SrtT rk (arrOf st) q0 n)
    (h : ∀ st', Iv kd rk a0 (q0 + n) st' → Q (ForInStep.yield (none, q0 + n)) st') : wpS M A E s (tl a0.size q0 n) Q st := by
  unfold tl
  refine wpS_bind (wpS_get ?_)
  generalize (pendingOf st).back? = bk
  rcases bk with _ | ⟨s1, n1, z⟩
  · exact wp_addRun I hn o h
  · dsimp only
    generalize power' a0.size (2 * s1 + n1) (2 * s1 + n1 + n1 + n) a0.size = w0
    refine wpS_bind (wpS_mono (wpS_forRange (I := fun _ c st' => c = (none, ()) ∧ Iv kd rk a0 q0 st' ∧ ∀ j, q0 ≤ j → (arrOf st')[j]? = (arrOf st)[j]?) (Q := fun c st' => c = (none, ()) ∧ Iv kd rk a0 q0 st' ∧ ∀ j, q0 ≤ j → (arrOf st')[j]? = (arrOf st)[j]?) ?_ (fun _ _ z => z) ⟨rfl, I, fun _ _ => rfl⟩) ?_)
    · rintro x c st1 _ _ ⟨rfl, I1, e1⟩
      refine wp_colStep L hS hr I1 hq fun st2 d I2 e2 => ?_
      cases d
      · exact ⟨rfl, I2, fun j hj => (e2 j hj).trans (e1 j hj)⟩
      · exact ⟨rfl, I2, fun j hj => (e2 j hj).trans (e1 j hj)⟩
    · rintro c st1 ⟨rfl, I1, e1⟩
      dsimp only
      refine wpS_bind (wpS_modify ?_)
      refine wp_addRun ⟨I1.k, I1.f, I1.a, ?_⟩ hn (fun i j hij hj => ?_) h
      · show Pd rk (arrOf st1) ((pendingOf st1).modify ((pendingOf st1).size - 1) fun x => (x.1, x.2.1, w0)).toList 0 q0
        rw [Array.toList_modify]
        exact I1.pd.modify
      · show R rk (arrOf st1) (q0 + i) ≤ R rk (arrOf st1) (q0 + j)
        rw [R_congr (rk := rk) (e1 (q0 + i) (by omega)), R_congr (rk := rk) (e1 (q0 + j) (by omega))]
        exact o i j hij hj
theorem Iv.within {q0 n : Nat} {st st' : SortSt} (I : Iv kd rk a0 q0 st) (W : Within st st' q0 n) : Iv kd rk a0 q0 st' := ⟨W.kp.k.trans I.k, W.kp.f.trans I.f, W.kp.a.trans I.a, by
  rw [W.kp.p]
  exact I.pd.congr fun i _ hi => R_congr (W.out i (.inl hi))⟩
theorem wp_mainStep {q0 : Nat} {st : SortSt} {Q : ForInStep LS → SortSt → Prop} (L : LtOk M A E s kd rk S) (hS : ∀ p ∈ a0.toList, S p) (hr : ∀ x, wpAny M A (rule x) (fun _ s' => s' = s) E s) (I : Iv kd rk a0 q0 st) (hq : q0 ≤ a0.size)
    (h1 : q0 = a0.size → Q (ForInStep.done (none, q0)) st) (h2 : ∀ n st', 1 ≤ n → q0 + n ≤ a0.size → Iv kd rk a0 (q0 + n) st' → Q (ForInStep.yield (none, q0 + n)) st') : wpS M A E s (mainStep a0.size q0) Q st := by
  unfold mainStep
  by_cases z : q0 ≥ a0.size
  · rw [if_pos z]
    exact wpS_pure (h1 (by omega))
  rw [if_neg z]
  have sz := I.a.size_eq
  refine wpS_bind (wp_countRun L I.k (I.all hS) (by omega) (by omega) hr fun n st1 g1 g2 W1 o1 => ?_)
  dsimp only
  have I1 := I.within W1
  by_cases w : n < minRun' a0.size a0.size 0
  · rw [if_pos w]
    generalize minRun' a0.size a0.size 0 = mr at w ⊢
    refine wpS_bind (wpS_lift (wpAny_mono (hr _) (fun _ _ z => ⟨z, ?_⟩) fun _ _ z => z))
    have sz1 := I1.a.size_eq
    refine wpS_bind (wp_binS L I1.k (I1.all hS) (by omega) (by omega) o1 fun st2 W2 o2 => ?_)
    rw [if_neg (by simp)]
    exact wp_tl L hS hr (I1.within W2) hq (by omega) o2 fun st3 I3 => h2 _ st3 (by omega) (by omega) I3
  · rw [if_neg w]
    exact wp_tl L hS hr I1 hq g1 o1 fun st3 I3 => h2 _ st3 g1 (by omega) I3
theorem pick_lt {ps : Array (Nat × Nat × Nat)} (h : 1 < ps.size) : pick ps + 1 < ps.size := by
  unfold pick
  generalize Option.any (fun x => decide (x < ps[ps.size - 2 + 1]?.elim 0 fun y => y.2.1)) (if ps.size - 2 > 0 then Option.map (fun y => y.2.1) ps[ps.size - 2 - 1]? else none) = b
  cases b
  · rw [if_neg (by simp)]; omega
  · rw [if_pos rfl]; omega
theorem wp_sortRuns {st : SortSt} {Q : Unit → SortSt → Prop} (L : LtOk M A E s kd rk S) (hS : ∀ p ∈ (arrOf st).toList, S p) (hr : ∀ x, wpAny M A (rule x) (fun _ s' => s' = s) E s) (hk : kindOf st = kd) (hf : failedOf st = none) (hp : pendingOf st = #[])
    (h : ∀ st', (arrOf st').Perm (arrOf st) → failedOf st' = none → Srt rk (arrOf st').toList → Q () st') : wpS M A E s sortRuns' Q st := by
  rw [sr_eq]
  refine wpS_bind (wpS_get ?_)
  have I0 : Iv kd rk (arrOf st) 0 st := ⟨hk, hf, Array.Perm.refl _, by rw [hp]; exact rfl⟩
  revert I0 hS h
  generalize arrOf st = a0
  intro hS h I0
  refine wpS_bind (wpS_mono (wpS_forRange (I := fun x c st' => ∃ q0, c = (none, q0) ∧ x ≤ q0 ∧ q0 ≤ a0.size ∧ Iv kd rk a0 q0 st') (Q := fun c st' => c = (none, a0.size) ∧ Iv kd rk a0 a0.size st') ?_ ?_ ⟨0, rfl, Nat.le_refl _, Nat.zero_le _, I0⟩) ?_)
  · rintro x c st1 _ _ ⟨q0, rfl, g1, g2, I⟩
    exact wp_mainStep L hS hr I g2 (fun e => by subst e; exact ⟨rfl, I⟩) fun n st2 k1 k2 I2 => ⟨q0 + n, rfl, by omega, k2, I2⟩
  · rintro c st1 ⟨q0, rfl, g1, g2, I⟩
    have e : q0 = a0.size := by omega
    subst e
    exact ⟨rfl, I⟩
  · rintro c st1 ⟨rfl, I1⟩
    dsimp only
    refine wpS_bind (wpS_mono (wpS_forRange (I := fun x c st' => c = (none, ()) ∧ Iv kd rk a0 a0.size st' ∧ ((pendingOf st').size ≤ 1 ∨ (pendingOf st').size + x ≤ a0.size)) (Q := fun c st' => c = (none, ()) ∧ Iv kd rk a0 a0.size st' ∧ (pendingOf st').size ≤ 1) ?_ ?_ ⟨rfl, I1, .inr ?_⟩) ?_)
    · rintro x c st2 _ _ ⟨rfl, I2, g⟩
      unfold finStep
      refine wpS_bind (wpS_get ?_)
      by_cases z : (pendingOf st2).size ≤ 1
      · rw [if_pos z]
        exact wpS_pure ⟨rfl, I2, z⟩
      · rw [if_neg z]
        refine wpS_bind (wp_mStep L hS hr I2 (Nat.le_refl _) (pick_lt (by omega)) fun st3 I3 e _ => ?_)
        rw [if_neg (by simp)]
        exact wpS_pure ⟨rfl, I3, .inr (by omega)⟩
    · rintro c st2 ⟨rfl, I2, g⟩
      exact ⟨rfl, I2, by omega⟩
    · have := I1.pd.le
      rw [Array.length_toList] at this
      omega
    · rintro c st2 ⟨rfl, I2, g⟩
      refine wpS_pure (h st2 I2.a I2.f ?_)
      have P := I2.pd
      have sz := I2.a.size_eq
      have lp : (pendingOf st2).toList.length ≤ 1 := by rw [Array.length_toList]; exact g
      have o : SrtT rk (arrOf st2) 0 a0.size := by
        generalize (pendingOf st2).toList = l at P lp
        match l, P, lp with
        | [], P, _ =>
          have e : 0 = a0.size := P
          intro i j _ hj
          omega
        | [(c, n, _)], P, _ =>
          obtain ⟨e1, _, o, e2⟩ := P
          have e2 : 0 + n = a0.size := e2
          subst e1
          rw [← e2, Nat.zero_add]
          exact o
        | _ :: _ :: _, _, lp => simp at lp
      have := srt_list o
      rw [List.drop_zero, List.take_of_length_le (by rw [Array.length_toList]; omega)] at this
      exact this
end
end ZS

namespace ZS
open PySem PyProof.Rows
/-! ### ranks of a total order -/
section
variable {κ : Type} {lt : κ → κ → Bool}
def rnk (lt : κ → κ → Bool) (ks : List κ) (k : κ) : Nat := ks.countP fun y => lt y k
theorem count_le {p q : κ → Bool} : ∀ {l : List κ}, (∀ x ∈ l, p x = true → q x = true) → l.countP p ≤ l.countP q
  | [], _ => Nat.le_refl _
  | x :: t, h => by
    have ih := count_le (l := t) fun y hy => h y (.tail _ hy)
    have hx := h x (.head _)
    rw [List.countP_cons, List.countP_cons]
    cases e : p x
    · rw [if_neg (by simp)]; omega
    · rw [hx e, if_pos rfl]; omega
theorem count_lt {p q : κ → Bool} : ∀ {l : List κ} {z : κ}, (∀ x ∈ l, p x = true → q x = true) → z ∈ l → p z = false → q z = true → l.countP p < l.countP q
  | x :: t, z, h, hz, h1, h2 => by
    have ih := count_le (l := t) fun y hy => h y (.tail _ hy)
    have hx := h x (.head _)
    rw [List.countP_cons, List.countP_cons]
    rcases List.mem_cons.mp hz with e | e
    · subst e
      rw [h1, h2, if_neg (by simp), if_pos rfl]; omega
    · have := count_lt (l := t) (fun y hy => h y (.tail _ hy)) e h1 h2
      cases e : p x
      · rw [if_neg (by simp)]; omega
      · rw [hx e, if_pos rfl]; omega
structure Tot (lt : κ → κ → Bool) : Prop where
  irr : ∀ a, lt a a = false
  tr : ∀ a b c, lt a b = true → lt b c = true → lt a c = true
  tot : ∀ a b, lt a b = false → lt b a = false → a = b
theorem rnk_le (T : Tot lt) {ks : List κ} {a b : κ} (h : lt b a = false) : rnk lt ks a ≤ rnk lt ks b := by
  refine count_le fun y _ hy => ?_
  cases e : lt a b
  · rw [← T.tot a b e h]; exact hy
  · exact T.tr _ _ _ hy e
theorem rnk_lt (T : Tot lt) {ks : List κ} {a b : κ} (ha : a ∈ ks) (h : lt a b = true) : rnk lt ks a < rnk lt ks b := count_lt (fun y _ hy => T.tr _ _ _ hy h) ha (T.irr a) h
theorem rnk_dec (T : Tot lt) {ks : List κ} {a b : κ} (ha : a ∈ ks) : decide (rnk lt ks a < rnk lt ks b) = lt a b := by
  cases e : lt a b
  · exact decide_eq_false (Nat.not_lt.mpr (rnk_le T e))
  · exact decide_eq_true (rnk_lt T ha e)
end
/-! ### rows of numbers by their first unlike ones -/
def ltL : List Int → List Int → Bool
  | _, [] => false
  | [], _ :: _ => true
  | a :: x, b :: y => if a = b then ltL x y else decide (a < b)
theorem ltL_irr : ∀ x, ltL x x = false
  | [] => rfl
  | a :: x => by rw [ltL, if_pos rfl]; exact ltL_irr x
theorem ltL_tr : ∀ a b c, ltL a b = true → ltL b c = true → ltL a c = true
  | _, [], _, h, _ => by simp [ltL] at h
  | _, _ :: _, [], _, h => by simp [ltL] at h
  | [], _ :: _, _ :: _, _, _ => rfl
  | a :: x, b :: y, c :: z, h, g => by
    rw [ltL] at h g ⊢
    by_cases e1 : a = b
    · subst e1
      rw [if_pos rfl] at h
      by_cases e2 : a = c
      · subst e2
        rw [if_pos rfl] at g ⊢
        exact ltL_tr x y z h g
      · rw [if_neg e2] at g ⊢
        exact g
    · rw [if_neg e1] at h
      have h := of_decide_eq_true h
      by_cases e2 : b = c
      · subst e2
        rw [if_neg e1]
        exact decide_eq_true h
      · rw [if_neg e2] at g
        have g := of_decide_eq_true g
        rw [if_neg (by omega)]
        exact decide_eq_true (by omega)
theorem ltL_tot : ∀ a b, ltL a b = false → ltL b a = false → a = b
  | [], [], _, _ => rfl
  | [], _ :: _, h, _ => by simp [ltL] at h
  | _ :: _, [], _, h => by simp [ltL] at h
  | a :: x, b :: y, h, g => by
    rw [ltL] at h g
    by_cases e : a = b
    · subst e
      rw [if_pos rfl] at h g
      rw [ltL_tot x y h g]
    · rw [if_neg e] at h
      rw [if_neg (fun z => e z.symm)] at g
      have h := of_decide_eq_false h
      have g := of_decide_eq_false g
      omega
theorem totL : Tot ltL := ⟨ltL_irr, ltL_tr, ltL_tot⟩
/-! ### tuples of ints -/
def intV : Value → Int
  | .int i _ => i
  | _ => 0
def keyV (h : Heap) : Value → List Int
  | .ref a => match h.get? a with
    | some o => match o.data with
      | .seq xs _ => xs.toList.map intV
      | _ => []
    | none => []
  | _ => []
def AllInt (l : List Value) : Prop := ∀ v ∈ l, ∃ i t, v = .int i t
def TupI (h : Heap) (v : Value) : Prop := ∃ a o xs n, v = .ref a ∧ h.get? a = some o ∧ o.cls = .type "tuple" ∧ o.data = .seq xs n ∧ AllInt xs.toList ∧ 0 < xs.size
theorem keyV_at {h : Heap} {a : Addr} {o : Obj} {xs : Array Value} {n : Nat} (e : h.get? a = some o) (d : o.data = .seq xs n) : keyV h (.ref a) = xs.toList.map intV := by
  unfold keyV
  dsimp only
  rw [e]
  dsimp only
  rw [d]
section
variable {prog : Program} {w : World} {A : Around} {E : Value → Shared → Prop} {s : Shared}
theorem lex_int {Q : Bool → Shared → Prop} {fin : Bool} : ∀ (xs ys : List Value) (i : Nat), AllInt xs → AllInt ys → fin = decide (xs.length < ys.length) → Q (ltL (xs.map intV) (ys.map intV)) s → PySem.W.KatLex prog w A true fin Q (xs.zip ys) i s
  | [], [], i, _, _, e, q => by
    subst e
    exact PySem.W.kat_nil q
  | [], b :: y, i, _, _, e, q => by
    subst e
    exact PySem.W.kat_nil q
  | a :: x, [], i, _, _, e, q => by
    subst e
    exact PySem.W.kat_nil q
  | a :: x, b :: y, i, ha, hb, e, q => by
    obtain ⟨n, t, rfl⟩ := ha a (.head _)
    obtain ⟨m, u, rfl⟩ := hb b (.head _)
    rw [List.map_cons, List.map_cons, ltL] at q
    refine PySem.W.kat_cons (wpAny_eqBool_int ?_)
    by_cases z : n = m
    · have q : Q (ltL (x.map intV) (y.map intV)) s := by
        rw [if_pos (show intV (.int n t) = intV (.int m u) from z)] at q
        exact q
      rw [show (n == m) = true by simpa using z]
      refine PySem.W.kat_yes (lex_int x y (i + 1) (fun v hv => ha v (.tail _ hv)) (fun v hv => hb v (.tail _ hv)) ?_ q)
      rw [e, List.length_cons, List.length_cons]
      exact decide_eq_decide.mpr (by omega)
    · have q : Q (decide (n < m)) s := by
        rw [if_neg (show ¬ intV (.int n t) = intV (.int m u) from z)] at q
        exact q
      rw [show (n == m) = false by simpa using z]
      refine PySem.W.kat_no ?_
      cases (true && i == 0)
      · exact PySem.W.kat_one _ _ (lt_int q)
      · exact oneLt_int q
/-- the comparisons of tuples of ints, by rank -/
theorem ltOk_tup {h0 : Heap} {ks : List (List Int)} {S : Keyed → Prop} (hS : ∀ x, S x → TupI h0 x.1 ∧ keyV h0 x.1 ∈ ks) (hk : ∀ b o, h0.get? b = some o → (∃ x n, o.cls = .type "tuple" ∧ o.data = .seq x n) → s.heap.get? b = some o) :
    LtOk (model prog w) A E s (tuples' true) (fun x => rnk ltL ks (keyV h0 x.1)) S := by
  intro x y st Q sx sy kd q
  obtain ⟨⟨a, oa, xs, na, ea, ga, ca, da, ia, _⟩, ma⟩ := hS x sx
  obtain ⟨⟨b, ob, ys, nb, eb, gb, cb, db, ib, _⟩, mb⟩ := hS y sy
  rw [lt'_eq]
  refine wpS_bind (wpS_get ?_)
  rw [kd, ea, eb]
  refine wpS_bind (wpS_lift (wpAny_attempt (PySem.W.kat_lt (hk _ _ ga ⟨_, _, ca, da⟩) da (hk _ _ gb ⟨_, _, cb, db⟩) db (lex_int _ _ 0 ia ib (by rw [Array.length_toList, Array.length_toList]) ⟨rfl, ?_⟩))))
  refine wpS_pure ?_
  dsimp only at q
  rw [rnk_dec totL ma, ea, eb, keyV_at ga da, keyV_at gb db] at q
  exact q
theorem kind_tup {M : Model} {h0 : Heap} {vs : List Value} {Q : SortKind → Shared → Prop} (hv : ∀ v ∈ vs, TupI h0 v) (hk : ∀ b o, h0.get? b = some o → (∃ x n, o.cls = .type "tuple" ∧ o.data = .seq x n) → s.heap.get? b = some o) (hne : vs ≠ []) (q : Q (tuples' true) s) : wpAny M A (keyKind' vs.toArray) Q E s := by
  have mk : ∀ (l : List Value), (∀ v ∈ l, TupI h0 v) → ∃ fs, PySem.W.KatTups s.heap l fs ∧ AllInt fs ∧ fs.length = l.length := by
    intro l
    induction l with
    | nil => exact fun _ => ⟨[], PySem.W.KatTups.nil, fun v hv => (nomatch hv), rfl⟩
    | cons v r ih =>
      intro hl
      obtain ⟨fs, k1, k2, k3⟩ := ih fun v hv => hl v (.tail _ hv)
      obtain ⟨a, o, xs, n, rfl, g, c, d, i, z⟩ := hl v (.head _)
      obtain ⟨f, hf⟩ : ∃ f, xs[0]? = some f := ⟨_, Array.getElem?_eq_getElem z⟩
      refine ⟨f :: fs, PySem.W.KatTups.cons (hk _ _ g ⟨_, _, c, d⟩) c d hf k1, fun v hv => ?_, by rw [List.length_cons, List.length_cons, k3]⟩
      rcases List.mem_cons.mp hv with e | e
      · subst e
        rw [← Array.getElem?_toList] at hf
        exact i _ (List.mem_of_getElem? hf)
      · exact k2 v e
  obtain ⟨fs, k1, k2, k3⟩ := mk vs hv
  refine PySem.W.kat_kind (T := .type "int") k1 ?_ (fun v hv => ?_) rfl q
  · rw [k3]
    exact List.length_pos_iff.mpr hne
  · obtain ⟨i, t, rfl⟩ := k2 v hv
    exact .now
end
end ZS

namespace ZS
open PySem PyProof.Rows
section
variable {prog : Program} {w : World} {A : Around} {E : Value → Shared → Prop} {s : Shared}
theorem zip_self (vs : List Value) : (vs.toArray.zip vs.toArray).toList = vs.map fun v => (v, v) := by
  rw [Array.toList_zip]
  induction vs with
  | nil => rfl
  | cons v r ih => exact congrArg ((v, v) :: ·) ih
/-- l.sort() -/
theorem lsort_any {a : Addr} {vs : List Value} {n : Nat} {kd : SortKind} {rk : Keyed → Nat} {S : Keyed → Prop} {P : PySem.Fin → Shared → Prop} (ho : s.heap.get? a = some (seqObj "list" vs.toArray n)) (hz : vs.length ≤ sizeLine) (hS : ∀ v ∈ vs, S (v, v))
    (kind : ∀ h', (∀ b o, b ≠ a → s.heap.get? b = some o → h'.get? b = some o) → ∀ {Q : SortKind → Shared → Prop}, vs ≠ [] → Q kd { s with heap := h' } → wpAny (model prog w) A (keyKind' vs.toArray) Q E { s with heap := h' })
    (lt : ∀ h', (∀ b o, b ≠ a → s.heap.get? b = some o → h'.get? b = some o) → LtOk (model prog w) A E { s with heap := h' } kd rk S)
    (h : ∀ (o : List Value) c h', o.Perm vs → o.Pairwise (fun x y => rk (x, x) ≤ rk (y, y)) → (∀ b u, b ≠ a → s.heap.get? b = some u → h'.get? b = some u) → h'.get? a = some (seqObj "list" o.toArray c) → P (.done (.ret .none)) { s with heap := h' }) :
    wpAny (model prog w) A (Builtin.«list.sort» ⟨[.ref a], []⟩) P E s := by
  rw [list_sort_plain]
  have ha : a < s.heap.objs.size := Heap.lt_size ho
  refine wpAny_bind (listItems_at ho rfl ?_)
  refine wpAny_bind (listUpdate_at ho rfl ?_ (by rw [List.size_toArray]; exact hz) (Nat.zero_le _))
  obtain ⟨e1, ho1⟩ : ∃ e1, (s.heap.update a (Obj.mapSeq fun _ => (#[] : Array Value))).get? a = some (seqObj "list" #[] e1) := ⟨_, get?_update_seq ho fun _ => #[]⟩
  refine wpAny_bind (seqEpoch_at ho1 rfl ?_)
  refine wpAny_bind (wpAny_newTuple ?_ hz)
  refine wpAny_bind (wpAny_newList ?_ (Nat.zero_le _))
  refine wpAny_holding ?_
  have k2 : ∀ b u, (s.heap.update a (Obj.mapSeq fun _ => (#[] : Array Value))).get? b = some u → (((s.heap.update a (Obj.mapSeq fun _ => (#[] : Array Value))).push (seqObj "tuple" vs.toArray 0)).push (seqObj "list" #[] 0)).get? b = some u := fun b u e => Heap.get?_push_of_some _ (Heap.get?_push_of_some _ e)
  have k3 : ∀ b u, b ≠ a → s.heap.get? b = some u → (((s.heap.update a (Obj.mapSeq fun _ => (#[] : Array Value))).push (seqObj "tuple" vs.toArray 0)).push (seqObj "list" #[] 0)).get? b = some u := fun b u hb e => k2 b u (by rw [Heap.get?_update_ne _ _ _ _ hb]; exact e)
  have ho6 := k2 _ _ ho1
  show wpAny (model prog w) A _ P E { s with heap := ((s.heap.update a (Obj.mapSeq fun _ => (#[] : Array Value))).push (seqObj "tuple" vs.toArray 0)).push (seqObj "list" #[] 0) }
  generalize ((s.heap.update a (Obj.mapSeq fun _ => (#[] : Array Value))).push (seqObj "tuple" vs.toArray 0)).push (seqObj "list" #[] 0) = h1 at k3 ho6 ⊢
  dsimp only
  have fin : ∀ st' : SortSt, (arrOf st').Perm (vs.toArray.zip vs.toArray) → Srt rk (arrOf st').toList → failedOf st' = none → wpAny (model prog w) A (do
      let touched := (← seqEpoch a) != e1
      Builtin.List.listUpdate (.ref a) fun _ => (arrOf st').map (·.2)
      if let some e := failedOf st' then rule "list.sort.comparison-raised"; throw e
      if touched then rule "list.sort.modified"; raiseError "ValueError" "list modified during sort"
      ret .none) P E { s with heap := h1 } := fun st' hp hs hf => by
    have lp : (arrOf st').toList.Perm (vs.map fun v => (v, v)) := by
      have := Array.perm_iff_toList_perm.mp hp
      rw [zip_self] at this
      exact this
    have op : ((arrOf st').toList.map (·.2)).Perm vs := by
      have := lp.map (·.2)
      rw [List.map_map, show ((fun x : Keyed => x.2) ∘ fun v : Value => (v, v)) = id from rfl, List.map_id] at this
      exact this
    have tw : ∀ p ∈ (arrOf st').toList, p = (p.2, p.2) := fun p hp => by
      obtain ⟨v, _, e⟩ := List.mem_map.mp (lp.mem_iff.mp hp)
      rw [← e]
    have osr : ((arrOf st').toList.map (·.2)).Pairwise (fun x y => rk (x, x) ≤ rk (y, y)) := by
      rw [List.pairwise_map]
      refine List.Pairwise.imp_of_mem (fun {p q} hp hq hr => ?_) hs
      rw [← tw p hp, ← tw q hq]
      exact hr
    have os : ((arrOf st').map (·.2)).size ≤ sizeLine + 1 := by
      rw [← Array.length_toList, Array.toList_map, op.length_eq]
      omega
    refine wpAny_bind (seqEpoch_at ho6 rfl ?_)
    refine wpAny_bind (listUpdate_at ho6 rfl ?_ (Nat.zero_le _) os)
    rw [hf]
    simp only [bne_self_eq_false, Bool.false_eq_true, if_false]
    obtain ⟨c, hc⟩ : ∃ c, (h1.update a (Obj.mapSeq fun _ => (arrOf st').map (·.2))).get? a = some (seqObj "list" ((arrOf st').toList.map (·.2)).toArray c) := by
      have := get?_update_seq ho6 fun _ => (arrOf st').map (·.2)
      rw [show ((arrOf st').toList.map (·.2)).toArray = (arrOf st').map (·.2) by rw [← Array.toList_map]]
      exact ⟨_, this⟩
    refine wpAny_pure (h _ c _ op osr (fun b u hb e => ?_) hc)
    rw [Heap.get?_update_ne _ _ _ _ hb]
    exact k3 b u hb e
  by_cases h2 : vs.toArray.size < 2
  · rw [if_pos h2, if_pos h2]
    refine wpAny_bind (wpAny_pure ?_)
    rw [StateT.run_pure]
    refine wpAny_bind (wpAny_pure ?_)
    refine fin (SortSt.mk' general' (vs.toArray.zip vs.toArray) #[] 7 none) (Array.Perm.refl _) ?_ rfl
    show Srt rk (vs.toArray.zip vs.toArray).toList
    rw [zip_self]
    have h3 : vs.length < 2 := h2
    clear fin h lt kind hS ho
    match vs, h3 with
    | [], _ => exact .nil
    | [v], _ => exact List.pairwise_singleton _ _
    | _ :: _ :: _, h3 => exact absurd h3 (by rw [List.length_cons, List.length_cons]; omega)
  · rw [if_neg h2, if_neg h2]
    refine wpAny_bind (kind h1 k3 (fun z => by rw [z] at h2; simp at h2) ?_)
    refine wpAny_bind (wpAny_mono (wp_sortRuns (st := SortSt.mk' kd (vs.toArray.zip vs.toArray) #[] 7 none) (Q := fun _ st' => (arrOf st').Perm (vs.toArray.zip vs.toArray) ∧ failedOf st' = none ∧ Srt rk (arrOf st').toList) (lt h1 k3) (fun p hp => ?_) (fun x => wpAny_rule rfl) rfl rfl rfl fun st' a1 a2 a3 => ⟨a1, a2, a3⟩) ?_ fun _ _ e => e)
    · rw [show (arrOf (SortSt.mk' kd (vs.toArray.zip vs.toArray) #[] 7 none)) = vs.toArray.zip vs.toArray from rfl, zip_self] at hp
      obtain ⟨v, hv, e⟩ := List.mem_map.mp hp
      rw [← e]
      exact hS v hv
    · rintro ⟨⟨⟩, st'⟩ s' ⟨rfl, hp, hf, hs⟩
      exact fin st' hp hs hf
end
end ZS

/-! OWN RULES: list(d) of a dict whose keys are tuples; sorted(l) of a list of tuples of ints -/
namespace ZG
open PySem
open Sem (wp)
theorem walks_raw {prog : Program} {w : World} {A : Around} (hh : A.handled = none) (it d : Addr) (hne : d ≠ it) (o : Obj) (es : Array DictEntry) (ep : Nat) (hd : o.data = .dict es ep) :
    Walks prog w A it [it, d] [it] es.size (fun i v => ∃ e, es[i]? = some e ∧ v = e.key) (fun i h => h.IsKeyIter it d i es.size ep ∧ h.get? d = some o) where
  sub := fun b hb => by simp at hb; simp [hb]
  frame := fun _ _ _ st hk => ⟨st.1.at fun o e => hk it (by simp) o e, hk d (by simp) o st.2⟩
  item := fun i s Q E hi st hQ => by
    have hx : es[i]? = some es[i] := Array.getElem?_eq_getElem hi
    refine dNext st.1 st.2 hd hx fun h' hit' hs' => ?_
    exact hQ _ h' s.toks ⟨_, hx, rfl⟩ ⟨hit', hs'.extBut d o hne st.2⟩ fun b o hb e => hs'.extBut b o (fun z => hb (by simp [z])) e
  done := fun s Q E st hQ => dEnd hh st.1 st.2 hd (Array.getElem?_eq_none (Nat.le_refl _)) fun h' he' => hQ h' s.toks fun b o hb e => he' b o (fun z => hb (by simp [z])) e
  self := fun _ _ _ _ st hQ => wpAny_pyIter_keyiter st.1 hQ
theorem src_raw {prog : Program} {w : World} {d : Addr} {o : Obj} {es : Array DictEntry} {ep : Nat} (lo : (d == sysModules) = false) (hc : o.ExactDict) (hd : o.data = .dict es ep) :
    PySem.W.KdlSrc prog w "dict" d d es.size (fun i v => ∃ e, es[i]? = some e ∧ v = e.key) (fun h => h.get? d = some o) where
  type := fun _ hm => ⟨o, hm, hc.1⟩
  there := fun _ hm => ⟨Heap.lt_size hm, Heap.lt_size hm⟩
  keep := fun _ _ hm hk => hk d (.inl rfl) o hm
  notList := by decide
  notTuple := by decide
  hint := fun _ _ _ _ hm hq => PySem.W.kdl_hint_dict ⟨o, hm, hc.1⟩ hq
  iter := fun _ _ hh hm => ⟨_, _, (fun _ _ hq => dIter lo hm hc hd hq), walks_raw hh _ d (Nat.ne_of_lt (Heap.lt_size hm)) o es ep hd, ⟨⟨_, Heap.get?_push_size _ rfl, rfl, rfl⟩, Heap.get?_push_of_some _ hm⟩⟩
end ZG
namespace L2
open PySem PySem.Spec PyProof.Rows
section
variable {X : Cx}
/-- a row of tuples of ints -/
abbrev RowsV (K : PySem.W.Frag) (H : Hp) : List V → List (List Int) → Prop := Paired fun v k => k ≠ [] ∧ ∃ b, v = .ref b ∧ SqT K H b (k.map V.int)
theorem rows_raw {pins : List (Addr × Obj)} {σ : St} {H : Hp} {s : Shared} (I : Inv X pins σ H s) : ∀ {ys : List V} {its : List Value} {ks : List (List Int)}, Vals ys its → RowsV X.K H ys ks → (∀ v ∈ its, ZS.TupI s.heap v ∧ ∃ b, v = .ref b ∧ ZS.keyV s.heap v ≠ [] ∧ SqT X.K H b ((ZS.keyV s.heap v).map V.int)) ∧ its.map (ZS.keyV s.heap) = ks
  | _, _, _, .nil, .nil => ⟨fun v hv => (nomatch hv), rfl⟩
  | _, _, _, @Paired.cons _ _ _ _ v _ its hv tv, @Paired.cons _ _ _ _ k _ ks hk tk => by
    obtain ⟨hne, b, rfl, hb⟩ := hk
    cases hv
    obtain ⟨j1, j2⟩ := rows_raw I tv tk
    obtain ⟨its', r', ⟨o, ho, hc, n, hd⟩, hz⟩ := I.tuple hb
    obtain ⟨ps, e1, e2⟩ := vals_toks r'
    have kv : ZS.keyV s.heap (.ref b) = k := by
      rw [ZS.keyV_at ho hd]
      show its'.map ZS.intV = k
      rw [e1, List.map_map, ← e2]
      rfl
    refine ⟨fun w hw => ?_, by rw [List.map_cons, kv, j2]⟩
    rcases List.mem_cons.mp hw with e | e
    · subst e
      refine ⟨⟨b, o, _, n, rfl, ho, hc, hd, fun v hv => ?_, ?_⟩, b, rfl, by rw [kv]; exact hne, by rw [kv]; exact hb⟩
      · have hv : v ∈ its' := hv
        rw [e1] at hv
        obtain ⟨p, _, e⟩ := List.mem_map.mp hv
        exact ⟨p.1, p.2, e.symm⟩
      · rw [List.size_toArray, e1, List.length_map, ← List.length_map (f := (·.1)), e2]
        exact List.length_pos_iff.mpr hne
    · exact j1 w e
end
end L2

/-! OWN RULES: sorted(d) of a dict whose keys are tuples of ints -/
namespace ZS
open PySem PyProof.Rows
section
variable {prog : Program} {w : World} {A : Around} {E : Value → Shared → Prop} {s : Shared}
theorem collect_dict {d : Addr} {o : Obj} {es : Array DictEntry} {ep : Nat} {Q : List Value → Shared → Prop} (lo : (d == sysModules) = false) (ho : s.heap.get? d = some o) (hc : o.ExactDict) (hd : o.data = .dict es ep) (hh : A.handled = none) (hn : es.size ≤ sizeLine)
    (h : ∀ h' tk acc, s.heap.objs.size ≤ h'.objs.size → (∀ b u, s.heap.get? b = some u → h'.get? b = some u) → ItemsOf (fun i v => ∃ e, es[i]? = some e ∧ v = e.key) acc es.size → Q acc.toList { s with heap := h', toks := tk }) : wpAny (model prog w) A (collect (.ref d)) Q E s := by
  unfold collect
  refine wpAny_bind (wpAny_runValue (codeAny_builtin F.entry_proto_collect ?_))
  rw [Around.under_plainId F.plain_proto_collect _]
  show wpAny _ A.in1 (newList [] >>= fun l => again (.builtin "list.__iadd__" ⟨[l, .ref d], []⟩)) _ _ s
  refine wpAny_bind (wpAny_newObj_type ?_)
  refine wpAny_pure ⟨plainId_quiet F.plain_list_iadd _, codeAny_builtin F.entry_list_iadd ?_⟩
  rw [Around.under_plainId F.plain_list_iadd _]
  have hS : (s.heap.push { cls := .type "list", data := .seq ([] : List Value).toArray }).get? s.heap.objs.size = some { cls := .type "list", data := .seq ([] : List Value).toArray } := Heap.get?_push_size _ rfl
  have hne : s.heap.objs.size ≠ d := Nat.ne_of_gt (Heap.lt_size ho)
  have fin : ∀ (s' : Shared) (h' : Heap) (tk : Nat) (acc : Array Value) (c : Nat), s' = { s with heap := h', toks := tk } → (∀ b u, s.heap.get? b = some u → h'.get? b = some u) → h'.get? s.heap.objs.size = some { cls := .type "list", dict := none, data := .seq acc c, slots := #[] } → ItemsOf (fun i v => ∃ e, es[i]? = some e ∧ v = e.key) acc es.size →
      wpAny (model prog w) A (load s.heap.objs.size >>= fun o => match o.data with
        | .seq xs _ => pure xs.toList
        | _ => unsupported "internal:collect") Q E s' := fun s' h' tk acc c es' kp e it => by
    subst es'
    refine wpAny_bind (wpAny_load e ?_)
    exact wpAny_pure (h h' tk acc (Nat.le_of_lt (Heap.lt_size e)) kp it)
  refine wpAny_mono (PySem.W.kdl_extend (s := { s with heap := s.heap.push { cls := .type "list", data := .seq ([] : List Value).toArray } }) (R := fun r s' => ∃ (h' : Heap) (tk : Nat) (acc : Array Value) (c : Nat), r = .ok (.ret (.ref s.heap.objs.size)) ∧ s' = { s with heap := h', toks := tk } ∧ (∀ b u, s.heap.get? b = some u → h'.get? b = some u) ∧ h'.get? s.heap.objs.size = some { cls := .type "list", dict := none, data := .seq acc c, slots := #[] } ∧ ItemsOf (fun i v => ∃ e, es[i]? = some e ∧ v = e.key) acc es.size)
    (ZG.src_raw lo hc hd) hh (Heap.get?_push_of_some _ ho) s.heap.objs.size hne hne (.ref s.heap.objs.size) 0 hS (fun h' tk acc c kp e it => ⟨h', tk, acc, c, rfl, rfl, fun b u eb => kp b u (Nat.ne_of_lt (Heap.lt_size eb)) (Heap.get?_push_of_some _ eb), e, it⟩) hn) (fun fn s' hf => ?_) (fun e s' hf => ?_)
  · cases fn with
    | done f =>
      obtain ⟨h', tk, acc, c, ef, es', kp, e, it⟩ := hf
      cases ef
      exact fin s' h' tk acc c es' kp e it
    | again c' =>
      refine ⟨hf.1, codeAny_mono hf.2 fun r s'' hr => ?_⟩
      obtain ⟨h', tk, acc, c, er, es', kp, e, it⟩ := hr
      subst er
      exact fin s'' h' tk acc c es' kp e it
  · obtain ⟨_, _, _, _, ef, _⟩ := hf
    cases ef
theorem sorted_from {x : Value} {vs : List Value} {kd : SortKind} {rk : Keyed → Nat} {S : Keyed → Prop} {Q : Value → Shared → Prop} (hz : vs.length ≤ sizeLine) (hS : ∀ v ∈ vs, S (v, v))
    (coll : ∀ {Q' : List Value → Shared → Prop} {E' : Value → Shared → Prop}, (∀ h' tk, s.heap.objs.size ≤ h'.objs.size → (∀ b u, s.heap.get? b = some u → h'.get? b = some u) → Q' vs { s with heap := h', toks := tk }) → wpAny (model prog w) A.in1 (collect x) Q' E' s)
    (kind : ∀ h' tk, (∀ b o, s.heap.get? b = some o → h'.get? b = some o) → ∀ {Q : SortKind → Shared → Prop} {E : Value → Shared → Prop}, vs ≠ [] → Q kd { s with heap := h', toks := tk } → wpAny (model prog w) A.in1.in1 (keyKind' vs.toArray) Q E { s with heap := h', toks := tk })
    (lt : ∀ h' tk E, (∀ b o, s.heap.get? b = some o → h'.get? b = some o) → LtOk (model prog w) A.in1.in1 E { s with heap := h', toks := tk } kd rk S)
    (h : ∀ (o : List Value) a c h' tk, o.Perm vs → o.Pairwise (fun x y => rk (x, x) ≤ rk (y, y)) → s.heap.objs.size ≤ a → (∀ b u, s.heap.get? b = some u → h'.get? b = some u) → h'.get? a = some (seqObj "list" o.toArray c) → Q (.ref a) { s with heap := h', toks := tk }) :
    wpAny (model prog w) A (call (.builtin "sorted") [x]) Q E s := by
  refine Calls.call_function_entry kind_sorted plain_sorted entry_sorted (args_sorted1 _) ?_
  unfold Builtin.«sorted»
  refine wpAny_bind (m := checkCount "sorted" 1 1 _) (wpAny_pure ?_)
  refine wpAny_bind (coll fun h0 tk le k0 => ?_)
  refine wpAny_bind (wpAny_newList ?_ hz)
  have hoL : (h0.push (seqObj "list" vs.toArray 0)).get? h0.objs.size = some (seqObj "list" vs.toArray 0) := Heap.get?_push_size _ rfl
  have keep : ∀ b o, s.heap.get? b = some o → (h0.push (seqObj "list" vs.toArray 0)).get? b = some o := fun b o q => Heap.get?_push_of_some _ (k0 b o q)
  show wpAny _ _ _ _ _ { s with heap := h0.push (seqObj "list" vs.toArray 0), toks := tk }
  have ne : ∀ b o, s.heap.get? b = some o → b ≠ h0.objs.size := fun b o e => Nat.ne_of_lt (Heap.lt_size (k0 b o e))
  generalize h0.push (seqObj "list" vs.toArray 0) = h1 at hoL keep ⊢
  refine wpAny_bind (wpAny_holding (wpAny_call_entry slot_list_sort ⟨_, hoL, rfl⟩ entry_list_sort ?body (args_list_sort _)))
  case body =>
    refine lsort_any (s := { s with heap := h1, toks := tk }) (kd := kd) (rk := rk) (S := S) hoL hz hS (fun h' k {Q} hne q => kind h' tk (fun b o e => k b o (ne b o e) (keep b o e)) hne q) (fun h' k => lt h' tk _ fun b o e => k b o (ne b o e) (keep b o e)) fun o c h' g1 g2 g3 g4 => ?_
    exact ⟨_, rfl, wpAny_pure ⟨_, rfl, h o _ c h' tk g1 g2 le (fun b u e => g3 b u (ne b u e) (keep b u e)) g4⟩⟩
end
end ZS
namespace L2
open PySem PySem.Spec PyProof.Rows
section
variable {X : Cx}
/-- rows of ints, as they were made -/
abbrev RowsH (H : Hp) : List V → List (List Int) → Prop := Paired fun v k => k ≠ [] ∧ ∃ b, v = .ref b ∧ H b = some (.tup (k.map V.int))
theorem paired_at2 {α β : Type} {F : α → β → Prop} : ∀ {l : List α} {m : List β}, Paired F l m → ∀ (i : Nat) (a : α) (b : β), l[i]? = some a → m[i]? = some b → F a b
  | _, _, .nil, i, a, b, h, _ => by simp at h
  | _, _, .cons f _, 0, a, b, h, g => by
    cases h
    cases g
    exact f
  | _, _, .cons _ t, i + 1, a, b, h, g => paired_at2 t i a b (by simpa using h) (by simpa using g)
theorem call_sortedD (hc : X.calm = true) : CallR X (.builtin "sorted") (fun xs H Q => ∃ d kvs ks, xs = [.ref d] ∧ H d = some (.dT kvs) ∧ kvs.map (·.1) = ks.map kI ∧ (∀ k ∈ ks, k ≠ []) ∧ ∀ zs ls, RowsH H zs ls → ls.Perm ks → ls.Pairwise (fun x y => ZS.ltL y x = false) → (kvs.map (·.1)).Nodup → New (.lst zs) H Q) := by
  intro pins s σ H xs us Q I r h
  obtain ⟨d, kvs, ks, rfl, hd, ek, hne, q⟩ := h
  obtain ⟨u, rfl, ru⟩ := vals1 r
  cases ru
  obtain ⟨z, lo, xs, kt, o, es, ep, g1, g2, g3, g4, g5⟩ := (show ObjOk X.prog X.w H s.heap d (.dT kvs) from I.hok d _ hd)
  have hlen : xs.length = kvs.length := (Paired.length kt).symm
  have hes : es.size = xs.length := by rw [← Array.length_toList, g4, List.length_map]
  have rel : ∀ (l : List Addr), Vals (l.map V.ref) (l.map Value.ref) := fun l => by
    induction l with
    | nil => exact .nil
    | cons a t ih => exact .cons rfl ih
  have rows : ∀ {kvs' : List (List Key × V)} {xs' : List (List Key × Addr × Value)} {ks' : List (List Int)}, KT H kvs' xs' → kvs'.map (·.1) = ks'.map kI → (∀ k ∈ ks', k ≠ []) → RowsV X.K H ((xs'.map fun x => x.2.1).map V.ref) ks' := fun {kvs' xs' ks'} k => by
    induction k generalizing ks' with
    | nil =>
      intro e _
      cases ks' with
      | nil => exact .nil
      | cons a b => simp at e
    | cons h t ih =>
      intro e hn
      cases ks' with
      | nil => simp at e
      | cons a b =>
        rw [List.map_cons, List.map_cons, List.cons.injEq] at e
        refine .cons ⟨hn a List.mem_cons_self, _, rfl, SqT.of ?_⟩ (ih e.2 fun k hk => hn k (List.mem_cons_of_mem _ hk))
        rw [h.2.1, e.1, kI_V]
  have rowsH : ∀ {kvs' : List (List Key × V)} {xs' : List (List Key × Addr × Value)} {ks' : List (List Int)}, KT H kvs' xs' → kvs'.map (·.1) = ks'.map kI → Paired (fun (v : Value) (k : List Int) => ∃ b, v = .ref b ∧ H b = some (.tup (k.map V.int))) ((xs'.map fun x => x.2.1).map Value.ref) ks' := fun {kvs' xs' ks'} k => by
    induction k generalizing ks' with
    | nil =>
      intro e
      cases ks' with
      | nil => exact .nil
      | cons a b => simp at e
    | cons h t ih =>
      intro e
      cases ks' with
      | nil => simp at e
      | cons a b =>
        rw [List.map_cons, List.map_cons, List.cons.injEq] at e
        refine .cons ⟨_, rfl, ?_⟩ (ih e.2)
        rw [h.2.1, e.1, kI_V]
  have eqk : ∀ {kvs' : List (List Key × V)} {xs' : List (List Key × Addr × Value)}, KT H kvs' xs' → kvs'.map (·.1) = xs'.map fun x => x.1 := fun {kvs' xs'} k => by
    induction k with
    | nil => rfl
    | cons h t ih => rw [List.map_cons, List.map_cons, ih, h.1]
  obtain ⟨f1, f2⟩ := rows_raw I (rel (xs.map fun x => x.2.1)) (rows kt ek hne)
  obtain ⟨its, eits⟩ : ∃ its, its = (xs.map fun x => x.2.1).map Value.ref := ⟨_, rfl⟩
  rw [← eits] at f1 f2
  have li : its.length = xs.length := by rw [eits, List.length_map, List.length_map]
  refine ZS.sorted_from (vs := its) (kd := tuples' true) (rk := fun x => ZS.rnk ZS.ltL ks (ZS.keyV s.heap x.1)) (S := fun x => x.1 ∈ its) (by omega) (fun v hv => hv)
    (fun {Q' E'} hq => ZS.collect_dict lo g1 g2 g3 (I.ok.hd hc) (by omega) fun h' tk acc le kp it => ?_)
    (fun h' tk kp {Q} {E} hne q => ZS.kind_tup (h0 := s.heap) (fun v hv => (f1 v hv).1) (fun b o e _ => kp b o e) hne q)
    (fun h' tk E kp => ZS.ltOk_tup (h0 := s.heap) (ks := ks) (fun x hx => ⟨(f1 _ hx).1, by rw [← f2]; exact List.mem_map_of_mem hx⟩) fun b o e _ => kp b o e) fun o a c h' tk op os ha kp e => ?_
  · have hacc : acc.toList = its := by
      rw [eits]
      refine List.ext_getElem? fun j => ?_
      rw [Array.getElem?_toList, List.getElem?_map, List.getElem?_map]
      by_cases hj : j < es.size
      · have hx : j < xs.length := by omega
        have hja : j < acc.size := by rw [it.1]; exact hj
        have ha : acc[j]? = some acc[j] := Array.getElem?_eq_getElem hja
        obtain ⟨en, e1, e2⟩ := it.2 j _ ha
        rw [ha, e2, List.getElem?_eq_getElem hx]
        rw [← Array.getElem?_toList, g4, List.getElem?_map, List.getElem?_eq_getElem hx] at e1
        cases e1
        rfl
      · rw [Array.getElem?_eq_none (by rw [it.1]; omega), List.getElem?_eq_none (by omega)]
        rfl
    rw [hacc]
    exact hq h' tk le kp
  have mem : ∀ v ∈ o, v ∈ its := fun v hv => op.mem_iff.mp hv
  have raw : ∀ v ∈ its, ∃ b, v = .ref b ∧ H b = some (.tup ((ZS.keyV s.heap v).map V.int)) := fun v hv => by
    obtain ⟨i, hi, ev⟩ := List.mem_iff_getElem.mp hv
    have h1 : its[i]? = some v := by rw [List.getElem?_eq_getElem hi, ev]
    have h2 : ks[i]? = some (ZS.keyV s.heap v) := by rw [← f2, List.getElem?_map, h1]; rfl
    have pr := rowsH kt ek
    rw [← eits] at pr
    exact paired_at2 pr i _ _ h1 h2
  have mk : ∀ (l : List Value), (∀ v ∈ l, v ∈ its) → ∃ zs, Vals zs l ∧ RowsH H zs (l.map (ZS.keyV s.heap)) ∧ zs.length = l.length := by
    intro l
    induction l with
    | nil => exact fun _ => ⟨[], .nil, .nil, rfl⟩
    | cons v t ih =>
      intro hl
      obtain ⟨zs, k1, k2, k3⟩ := ih fun v hv => hl v (.tail _ hv)
      obtain ⟨_, _, _, k4, _⟩ := f1 v (hl v (.head _))
      obtain ⟨b, e, k5⟩ := raw v (hl v (.head _))
      exact ⟨.ref b :: zs, .cons e k1, .cons ⟨k4, b, rfl, k5⟩ k2, by rw [List.length_cons, List.length_cons, k3]⟩
  obtain ⟨zs, k1, k2, k3⟩ := mk o mem
  refine ⟨.ref a, _, I.laid (t' := tk) kp ha (show ObjOk X.prog X.w _ h' _ (.lst zs) from ⟨by rw [k3, op.length_eq]; omega, o, c, k1, e⟩), rfl, (q zs _ k2 ?_ ?_ (by rw [eqk kt]; exact g5)).at (I.hok.fresh ha)⟩
  · rw [← f2]
    exact op.map _
  · rw [List.pairwise_map]
    refine List.Pairwise.imp_of_mem (fun {x y} hx hy hxy => ?_) os
    cases z : ZS.ltL (ZS.keyV s.heap y) (ZS.keyV s.heap x)
    · rfl
    · have := ZS.rnk_lt ZS.totL (ks := ks) (by rw [← f2]; exact List.mem_map_of_mem (mem y hy)) z
      exact absurd this (Nat.not_lt.mpr hxy)
end
end L2
/-! ### ints -/
namespace ZS
open PySem PyProof.Rows
section
variable {prog : Program} {w : World} {A : Around} {E : Value → Shared → Prop} {s : Shared}
end
end ZS
namespace L2
open PySem PySem.Spec PyProof.Rows
section
variable {X : Cx}
end
end L2

/-! OWN RULES: list(reversed(l)); min and max of a tuple; ranges downwards; x in a list of data -/
namespace ZR
open PySem
theorem hint_rev {prog : Program} {w : World} {A : Around} {E : Value → Shared → Prop} {s : Shared} {it l : Addr} {i : Int} {Q : Bool → Shared → Prop} (h : s.heap.IsRevIter it l i) (q : Q false s) : wpAny (model prog w) A (Builtin.List.listLengthHint (Value.ref it)) Q E s := by
  have ty : s.TypeIs (Value.ref it) "list_reverseiterator" := h.typeIs
  unfold Builtin.List.listLengthHint
  refine wpAny_bind (wpAny_specialOf ty (r := none) rfl ?_)
  refine wpAny_ite_split (fun c => absurd c (by decide)) (fun _ => ?_)
  refine wpAny_ite_split (fun c => absurd c (by decide)) (fun _ => ?_)
  refine wpAny_bind (wpAny_specialOf ty (r := some (Value.builtin "list_reverseiterator.__length_hint__")) rfl ?_)
  refine wpAny_bind (wpAny_isInstance ty (b := true) (by rw [isSubtype_type]; rfl) ?_)
  refine wpAny_ite_split (fun c => absurd c (by decide)) (fun _ => ?_)
  refine wpAny_ite_split (fun _ => ?_) (fun c => absurd rfl c)
  refine wpAny_ite_split (fun c => absurd c (by decide)) (fun _ => ?_)
  exact wpAny_pure q
theorem call_list_rev {prog : Program} {w : World} {A : Around} {E : Value → Shared → Prop} {s : Shared} {I l : Addr} {items : Array Value} {Q : Value → Shared → Prop} (hh : A.handled = none) (hne : l ≠ I)
    (h1 : s.heap.IsRevIter I l ((items.size : Int) - 1)) (h2 : s.heap.IsList l items) (hn : items.size ≤ sizeLine)
    (q : ∀ (h' : Heap) (tk : Nat) (acc' : Array Value) (c' : Nat), (∀ b o, b ≠ I → s.heap.get? b = some o → h'.get? b = some o) →
      h'.get? s.heap.objs.size = some { cls := .type "list", data := .seq acc' c' } → ItemsOf (fun i v => items[items.size - 1 - i]? = some v) acc' items.size → Q (.ref s.heap.objs.size) { s with heap := h', toks := tk }) :
    wpAny (model prog w) A (call (.type "list") [.ref I]) Q E s := by
  have hI : I < s.heap.objs.size := by obtain ⟨o, e, _⟩ := h1; exact Heap.lt_size e
  have hl : l < s.heap.objs.size := by obtain ⟨o, e, _⟩ := h2; exact Heap.lt_size e
  refine callType_codes F.called_list (F.typeCall_list_1 _) F.entry_list_init (code_list_new _ (Q₁ := fun v s1 => v = .ref s.heap.objs.size ∧ s1 = { s with heap := s.heap.push { cls := .type "list", data := .seq #[] } }) ⟨rfl, rfl⟩) ?_
  rintro _ _ ⟨rfl, rfl⟩
  have hS : (s.heap.push ({ cls := .type "list", data := .seq #[] } : Obj)).get? s.heap.objs.size = some { cls := .type "list", data := .seq #[] } := Heap.get?_push_size _ rfl
  refine ⟨⟨_, hS, rfl⟩, F.args_list_init_2 _ _, ?_⟩
  have k1 : (s.heap.push { cls := .type "list", data := .seq #[] }).IsRevIter I l ((items.size : Int) - 1) := h1.at fun o e => Heap.get?_push_of_some _ e
  have k2 : (s.heap.push { cls := .type "list", data := .seq #[] }).IsList l items := by
    obtain ⟨o, e, r⟩ := h2
    exact ⟨o, Heap.get?_push_of_some _ e, r⟩
  unfold Builtin.«list.__init__»
  refine wpAny_bind (wpAny_bind (wpAny_seqItems hS rfl (wpAny_pure ?_)))
  refine wpAny_bind (wpAny_updateSeq hS rfl ?_ (by simp) (by simp))
  refine wpAny_bind (wpAny_letGo ?_)
  have hS2 : ((s.heap.push ({ cls := .type "list", data := .seq #[] } : Obj)).update s.heap.objs.size (Obj.mapSeq fun _ => #[])).get? s.heap.objs.size = some (Obj.mapSeq (fun _ => #[]) { cls := .type "list", data := .seq #[] }) := by
    exact Heap.get?_update_self _ hS rfl
  have kp : ∀ b o, b ≠ s.heap.objs.size → (s.heap.push ({ cls := .type "list", data := .seq #[] } : Obj)).get? b = some o → ((s.heap.push ({ cls := .type "list", data := .seq #[] } : Obj)).update s.heap.objs.size (Obj.mapSeq fun _ => #[])).get? b = some o := fun b o hb e => by
    rw [Heap.get?_update_ne _ _ _ _ hb]
    exact e
  have k1' := k1.at fun o e => kp I o (Nat.ne_of_lt hI) e
  have k2' : ((s.heap.push ({ cls := .type "list", data := .seq #[] } : Obj)).update s.heap.objs.size (Obj.mapSeq fun _ => #[])).IsList l items := by
    obtain ⟨o, e, r⟩ := k2
    exact ⟨o, kp l o (Nat.ne_of_lt hl) e, r⟩
  generalize (s.heap.push ({ cls := .type "list", data := .seq #[] } : Obj)).update s.heap.objs.size (Obj.mapSeq fun _ => #[]) = h2' at *
  show wpAny (model prog w) A.in1.in1 (Builtin.List.listExtendWith (.ref s.heap.objs.size) (.ref I) .none) _ _ { s with heap := h2' }
  unfold Builtin.List.listExtendWith
  refine wpAny_bind (wpAny_typeOf (T := "list_reverseiterator") (Heap.IsRevIter.typeIs (s := { s with heap := h2' }) k1') ?_)
  refine wpAny_ite_split (fun c => absurd c ?_) (fun _ => ?_)
  · have e : Builtin.List.listSameRef (.ref s.heap.objs.size) (.ref I) = false := by
      unfold Builtin.List.listSameRef
      exact beq_eq_false_iff_ne.mpr (fun z => Nat.ne_of_lt hI z.symm)
    rw [e]
    decide
  refine wpAny_bind (wpAny_pyIter_revIter k1' ?_)
  refine wpAny_bind (wpAny_holding (hint_rev k1' ?_))
  refine wpAny_ite_split (fun c => absurd c (by decide)) (fun _ => ?_)
  refine wpAny_pure ⟨plainId_quiet F.plain_extend_loop _, ?_⟩
  have W := (Walks.listRev (prog := prog) (w := w) (A := A.in1.in1) hh I l hne items).toS
  refine codeAny_extend_loopS W hn s.heap.objs.size (fun z => by rcases List.mem_cons.mp z with z | z; exact Nat.ne_of_lt hI z.symm; exact Nat.ne_of_lt hl (List.mem_singleton.mp z).symm) .none items.size 0 { s with heap := h2' } #[] _ rfl (Nat.zero_le _) ⟨Nat.zero_le _, by simpa using k1', k2'⟩ hS2 ⟨rfl, fun j v e => by simp at e⟩ fun s' acc' c' m e it => ⟨rfl, ?_⟩
  obtain ⟨h', g', d', tk', os'⟩ := s'
  have e1 := m.gens
  have e2 := m.drawn
  have e3 := m.os
  dsimp only at e1 e2 e3
  subst e1 e2 e3
  exact q h' tk' acc' c' (fun b o hb eb => m.heap b o (fun z => by rcases List.mem_cons.mp z with z | z; exact Nat.ne_of_lt (Heap.lt_size eb) z; exact hb (List.mem_singleton.mp z)) (kp b o (Nat.ne_of_lt (Heap.lt_size eb)) (Heap.get?_push_of_some _ eb))) e it
end ZR
namespace L2
open PySem PySem.Spec PyProof.Rows
section
variable {X : Cx}
theorem vals_rev {xs : List V} {us : List Value} (h : Vals xs us) : Vals xs.reverse us.reverse := by
  have app : ∀ {a : List V} {b : List Value} {c : List V} {d : List Value}, Vals a b → Vals c d → Vals (a ++ c) (b ++ d) := fun {a b c d} p q => by
    induction p with
    | nil => exact q
    | cons r _ ih => exact .cons r ih
  induction h with
  | nil => exact .nil
  | cons r _ ih =>
    rw [List.reverse_cons, List.reverse_cons]
    exact app ih (.cons r .nil)
/-- list(reversed(e)) of a list -/
theorem pe_listrev {e : Expr} {te : TE} {p1 p2 pos1 pos2 : Pos} (hc : X.calm = true) (hg1 : Gl X "list") (hm1 : X.mg "list" = none) (hg2 : Gl X "reversed") (hm2 : X.mg "reversed" = none) (he : PE X e te)
    (hs1 : starEach [e] X.env = [(false, eval e X.env)] := by rfl) (hs2 : starEach [.Call (.Name "reversed" p2) [e] [] pos2] X.env = [(false, eval (.Call (.Name "reversed" p2) [e] [] pos2) X.env)] := by rfl) :
    PE X (.Call (.Name "list" p1) [.Call (.Name "reversed" p2) [e] [] pos2] [] pos1) (fun σ H Q => te σ H fun x H1 => ∃ l xs, x = .ref l ∧ SqL X.K H1 l xs ∧ New (.lst xs.reverse) H1 Q) := by
  intro pins s σ H Q I h
  refine wpAny_Call_Name_kw (ld_blt I hg1 hm1 boot_list (callWith_type1 ?_ (by rw [hs2]; rfl) rfl))
  rw [hs2]
  refine Calls.spliced_cons ?_
  refine wpAny_Call_Name_kw (ld_blt I hg2 hm2 boot_reversed (callWith_type1 ?_ (by rw [hs1]; rfl) rfl))
  rw [hs1]
  refine Calls.spliced_cons (thn (he pins s σ H _ I h) fun u s1 ⟨x, H1, I1, r1, l, xs, ex, hl, q⟩ => ?_)
  subst ex
  cases r1
  obtain ⟨its, rv, pl, hz⟩ := I1.list hl
  refine wpAny_pure ?_
  refine call_reversed_list pl.isList ?_
  have hlen := rv.length
  have hlt : l < s1.heap.objs.size := by obtain ⟨o, n, e, _⟩ := pl; exact Heap.lt_size e
  refine wpAny_pure ?_
  have I2 : Inv X pins σ H1 { s1 with heap := s1.heap.push (revObj l ((its.toArray.size : Int) - 1)) } := I1.kept (t' := s1.toks) fun b o e => Heap.get?_push_of_some _ e
  obtain ⟨f0, f1, f2, f3, f4, f5⟩ := I1.fpOk (b := s1.heap.objs.size) (Nat.le_refl _) (I1.hok.fresh (Nat.le_refl _))
  refine ZR.call_list_rev (items := its.toArray) (l := l) (I2.ok.hd hc) (Nat.ne_of_lt hlt) ⟨_, Heap.get?_push_size _ rfl, rfl, rfl⟩ ?_ (by simp only [List.size_toArray]; omega) fun h' tk acc c kp ea it => ?_
  · obtain ⟨o, e, r⟩ := pl.isList
    exact ⟨o, Heap.get?_push_of_some _ e, r⟩
  have hacc : acc.toList = its.reverse := by
    refine List.ext_getElem? fun j => ?_
    rw [Array.getElem?_toList]
    by_cases hj : j < its.length
    · have hja : j < acc.size := by rw [it.1, List.size_toArray]; exact hj
      have ha : acc[j]? = some acc[j] := Array.getElem?_eq_getElem hja
      have := it.2 j _ ha
      rw [ha, List.getElem?_reverse hj, ← this]
      simp
    · rw [Array.getElem?_eq_none (by rw [it.1, List.size_toArray]; omega), List.getElem?_eq_none (by rw [List.length_reverse]; omega)]
  have ea2 : acc = its.reverse.toArray := by rw [← hacc]
  have hfr : H1 (s1.heap.objs.size + 1) = none := I1.hok.fresh (Nat.le_succ _)
  have esz : (s1.heap.push (revObj l ((its.toArray.size : Int) - 1))).objs.size = s1.heap.objs.size + 1 := by simp [Heap.push]
  dsimp only at ea ⊢
  rw [esz] at ea ⊢
  rw [ea2] at ea
  refine ⟨.ref (s1.heap.objs.size + 1), _, I1.laid (t' := tk) (h' := h') (fun b o e => kp b o (Nat.ne_of_lt (Heap.lt_size e)) (Heap.get?_push_of_some _ e)) (Nat.le_succ _) (show ObjOk X.prog X.w _ h' _ (.lst xs.reverse) from ⟨by rw [List.length_reverse]; exact hz, its.reverse, c, vals_rev rv, ea⟩), rfl, q _ _ hfr (same_new hfr _) upd_same⟩
/-! ### downwards -/
/-! ### min and max of a tuple of ints -/
/-! ### x in a list of data -/
theorem zip_has {K : PySem.W.Frag} {H : Hp} : ∀ {ds : List Dt} {xs : List V} {us : List Value}, HasL K H ds xs → Vals xs us → ∀ p ∈ us.zip ds, ∃ x, RelV x p.1 ∧ Has K H p.2 x
  | [], _, _, _, _ => fun p hp => by simp at hp
  | d :: ds, _, _, h, v => fun p hp => by
    rw [HasL] at h
    obtain ⟨x, t, rfl, h1, h2⟩ := h
    cases v with
    | cons r v' =>
      rw [List.zip_cons_cons] at hp
      rcases List.mem_cons.mp hp with rfl | hp
      · exact ⟨x, r, h1⟩
      · exact zip_has h2 v' p hp
theorem eq_all {pins : List (Addr × Obj)} {σ : St} {H : Hp} {s : Shared} (I : Inv X pins σ H s) {A : Around} {n : Nat} (hA : A.units + n < cLine) {d : Dt} {x : V} {v : Value} (hd : Has X.K H d x) (rx : RelV x v) :
    ∀ {ds : List Dt} {xs : List V} {us : List Value}, dptL ds ≤ n → HasL X.K H ds xs → Vals xs us → ∃ e : Value → Bool, (∀ u ∈ us, SeqAt.EqAt A s u v (e u)) ∧ (∀ p ∈ us.zip ds, e p.1 = eqD p.2 d) ∧ us.any e = ds.any fun d' => eqD d' d
  | [], _, _, _, h, r => by
    rw [HasL] at h
    subst h
    cases r
    exact ⟨fun _ => false, fun u hu => (by cases hu), fun p hp => (by simp at hp), rfl⟩
  | d' :: ds, _, _, hn, h, r => by
    rw [HasL] at h
    obtain ⟨x', t, rfl, h1, h2⟩ := h
    rw [dptL] at hn
    cases r with
    | @cons _ u' _ us r1 r2 =>
      obtain ⟨e0, a1, a2, a3⟩ := eq_all I hA hd rx (by omega) h2 r2
      have q1 : SeqAt.EqAt A s u' v (eqD d' d) := (eq_deep I n A d' d x' x u' v (by omega) hA h1 hd r1 rx).2.2
      have same : ∀ p ∈ us.zip ds, p.1 = u' → p.2 = d' := fun p hp z => by
        obtain ⟨y, ry, hy⟩ := zip_has h2 r2 p hp
        rw [z] at ry
        have := RelV.inj ry r1
        subst this
        exact Has.inj I hy h1
      have ev : ∀ p ∈ us.zip ds, (if p.1 = u' then eqD d' d else e0 p.1) = eqD p.2 d := fun p hp => by
        split
        · rename_i z
          rw [same p hp z]
        · exact a2 p hp
      have len : us.length = ds.length := by
        have m1 := h2.len
        have m2 := r2.length
        omega
      have anyz : ∀ (f : Value → Bool) (us : List Value) (ds : List Dt), us.length = ds.length → (∀ p ∈ us.zip ds, f p.1 = eqD p.2 d) → us.any f = ds.any fun d' => eqD d' d := fun f us => by
        induction us with
        | nil => intro ds z _; cases ds with
          | nil => rfl
          | cons _ _ => cases z
        | cons u us ih => intro ds z h; cases ds with
          | nil => cases z
          | cons c cs =>
            rw [List.any_cons, List.any_cons, ih cs (Nat.succ.inj z) fun p hp => h p (by rw [List.zip_cons_cons]; exact List.mem_cons_of_mem _ hp), h (u, c) (by rw [List.zip_cons_cons]; exact List.mem_cons_self ..)]
      refine ⟨fun y => if y = u' then eqD d' d else e0 y, fun u hu => ?_, fun p hp => ?_, ?_⟩
      · show SeqAt.EqAt A s u v (if u = u' then eqD d' d else e0 u)
        split
        · rename_i z
          rw [z]
          exact q1
        · rename_i z
          rcases List.mem_cons.mp hu with rfl | hu
          · exact absurd rfl z
          · exact a1 u hu
      · rw [List.zip_cons_cons] at hp
        rcases List.mem_cons.mp hp with rfl | hp
        · exact if_pos rfl
        · exact ev p hp
      · rw [List.any_cons, List.any_cons, anyz _ us ds len ev, if_pos rfl]
end
end L2

/-! OWN RULES: str(x) of a list or tuple of data -/
namespace L2
open PySem PySem.Spec PyProof.Rows
mutual
def toPy : Dt → PyData
  | .int i => .int i
  | .bl b => .bool b
  | .str x => .str x
  | .non => .none
  | .lst ds => .list (toPys ds)
  | .tup ds => .tuple (toPys ds)
def toPys : List Dt → List PyData
  | [] => []
  | d :: r => toPy d :: toPys r
end
mutual
/-- its ints are small, and it has no texts -/
def shD : Dt → Bool
  | .int i => decide (i.natAbs < 10 ^ 12)
  | .str _ => false
  | .bl _ => true
  | .non => true
  | .lst ds => shL ds
  | .tup ds => shL ds
def shL : List Dt → Bool
  | [] => true
  | d :: r => shD d && shL r
end
mutual
theorem sh_showable : ∀ d : Dt, shD d = true → (toPy d).showable = true
  | .int i, h => by
    have h : i.natAbs < 10 ^ 12 := by simpa [shD] using h
    rw [toPy, PyData.showable.eq_def]
    refine decide_eq_true ?_
    by_cases z : i.natAbs = 0
    · rw [z]; decide
    · exact (Nat.log2_lt z).mpr (Nat.lt_of_lt_of_le (Nat.lt_trans h (by decide : 10 ^ 12 < 2 ^ 40)) (Nat.pow_le_pow_right (by decide) (by decide)))
  | .str _, h => by simp [shD] at h
  | .bl b, _ => by rw [toPy, PyData.showable.eq_def]
  | .non, _ => by rw [toPy, PyData.showable.eq_def]
  | .lst ds, h => by
    rw [shD] at h
    rw [toPy, PyData.showable.eq_def]
    exact shs_showable ds h
  | .tup ds, h => by
    rw [shD] at h
    rw [toPy, PyData.showable.eq_def]
    exact shs_showable ds h
theorem shs_showable : ∀ ds : List Dt, shL ds = true → PyData.showableAll (toPys ds) = true
  | [], _ => by rw [toPys, PyData.showableAll.eq_def]
  | d :: r, h => by
    rw [shL, Bool.and_eq_true] at h
    rw [toPys, PyData.showableAll.eq_def]
    show (_ && _) = true
    rw [sh_showable d h.1, shs_showable r h.2]
    rfl
end
mutual
theorem sh_short : ∀ d : Dt, shD d = true → PyData.leavesShort 13 (toPy d) = true
  | .int i, h => by
    have h : i.natAbs < 10 ^ 12 := by simpa [shD] using h
    rw [toPy, PyData.leavesShort.eq_def]
    exact decide_eq_true (PyData.shown_int_le h)
  | .str _, h => by simp [shD] at h
  | .bl b, _ => by rw [toPy, PyData.leavesShort.eq_def]
  | .non, _ => by rw [toPy, PyData.leavesShort.eq_def]
  | .lst ds, h => by
    rw [shD] at h
    rw [toPy, PyData.leavesShort.eq_def]
    exact shs_short ds h
  | .tup ds, h => by
    rw [shD] at h
    rw [toPy, PyData.leavesShort.eq_def]
    exact shs_short ds h
theorem shs_short : ∀ ds : List Dt, shL ds = true → PyData.leavesShortAll 13 (toPys ds) = true
  | [], _ => by rw [toPys, PyData.leavesShortAll.eq_def]
  | d :: r, h => by
    rw [shL, Bool.and_eq_true] at h
    rw [toPys, PyData.leavesShortAll.eq_def]
    show (_ && _) = true
    rw [sh_short d h.1, shs_short r h.2]
    rfl
end
mutual
theorem sh_nodict : ∀ d : Dt, (toPy d).hasDict = false
  | .int i => by rw [toPy, PyData.hasDict.eq_def]
  | .str _ => by rw [toPy, PyData.hasDict.eq_def]
  | .bl b => by rw [toPy, PyData.hasDict.eq_def]
  | .non => by rw [toPy, PyData.hasDict.eq_def]
  | .lst ds => by
    rw [toPy, PyData.hasDict.eq_def]
    exact shs_nodict ds
  | .tup ds => by
    rw [toPy, PyData.hasDict.eq_def]
    exact shs_nodict ds
theorem shs_nodict : ∀ ds : List Dt, PyData.hasDictAll (toPys ds) = false
  | [] => by rw [toPys, PyData.hasDictAll.eq_def]
  | d :: r => by
    rw [toPys, PyData.hasDictAll.eq_def]
    show (_ || _) = false
    rw [sh_nodict d, shs_nodict r]
    rfl
end
mutual
theorem sh_depth : ∀ d : Dt, (toPy d).depth ≤ dpt d
  | .int i => by rw [toPy, PyData.depth.eq_def]; exact Nat.zero_le _
  | .str _ => by rw [toPy, PyData.depth.eq_def]; exact Nat.zero_le _
  | .bl b => by rw [toPy, PyData.depth.eq_def]; exact Nat.zero_le _
  | .non => by rw [toPy, PyData.depth.eq_def]; exact Nat.zero_le _
  | .lst ds => by
    rw [toPy, PyData.depth.eq_def, dpt]
    exact Nat.add_le_add_right (shs_depth ds) 1
  | .tup ds => by
    rw [toPy, PyData.depth.eq_def, dpt]
    exact Nat.add_le_add_right (shs_depth ds) 1
theorem shs_depth : ∀ ds : List Dt, PyData.depthAll (toPys ds) ≤ dptL ds
  | [] => by rw [toPys, PyData.depthAll.eq_def]; exact Nat.zero_le _
  | d :: r => by
    rw [toPys, PyData.depthAll.eq_def, dptL]
    have h1 := sh_depth d
    have h2 := shs_depth r
    show max _ _ ≤ _
    omega
end
section
variable {X : Cx}
mutual
theorem reads_of {pins : List (Addr × Obj)} {σ : St} {H : Hp} {s : Shared} (I : Inv X pins σ H s) : ∀ (d : Dt) {x : V} {u : Value}, Has X.K H d x → RelV x u → ∃ as, Reads s.heap u (toPy d) as
  | .int i, x, u, h, r => by
    rw [Has] at h
    subst h
    obtain ⟨t, rfl⟩ := r
    rw [toPy]
    exact ⟨[], .int i t⟩
  | .bl b, x, u, h, r => by
    rw [Has] at h
    subst h
    have e : u = Value.bool b := r
    subst e
    rw [toPy]
    exact ⟨[], .bool b⟩
  | .str z, x, u, h, r => by
    rw [Has] at h
    subst h
    obtain ⟨t, rfl⟩ := r
    rw [toPy]
    exact ⟨[], .str z t⟩
  | .non, x, u, h, r => by
    rw [Has] at h
    subst h
    have e : u = Value.none := r
    subst e
    rw [toPy]
    exact ⟨[], .none⟩
  | .lst ds, x, u, h, r => by
    rw [Has] at h
    obtain ⟨a, xs, rfl, hs, hl⟩ := h
    have e : u = Value.ref a := r
    subst e
    obtain ⟨its, rv, ⟨o, n, e, c1, c2, c3⟩, _⟩ := I.list hs
    obtain ⟨as, ha⟩ := readss_of I ds hl rv
    rw [toPy]
    exact ⟨_, .list e (by assumption) (by assumption) (by simpa using ha)⟩
  | .tup ds, x, u, h, r => by
    rw [Has] at h
    obtain ⟨a, xs, rfl, hs, hl⟩ := h
    have e : u = Value.ref a := r
    subst e
    obtain ⟨its, rv, ⟨o, e, c1, n, c2⟩, _⟩ := I.tuple hs
    obtain ⟨as, ha⟩ := readss_of I ds hl rv
    rw [toPy]
    exact ⟨_, .tuple e (by assumption) (by assumption) (by simpa using ha)⟩
theorem readss_of {pins : List (Addr × Obj)} {σ : St} {H : Hp} {s : Shared} (I : Inv X pins σ H s) : ∀ (ds : List Dt) {xs : List V} {us : List Value}, HasL X.K H ds xs → Vals xs us → ∃ as, ReadsAll s.heap us (toPys ds) as
  | [], xs, us, h, r => by
    rw [HasL] at h
    subst h
    cases r
    rw [toPys]
    exact ⟨[], .nil⟩
  | d :: ds, xs, us, h, r => by
    rw [HasL] at h
    obtain ⟨x, t, rfl, h1, h2⟩ := h
    cases r with
    | cons r1 r2 =>
      obtain ⟨a1, q1⟩ := reads_of I d h1 r1
      obtain ⟨a2, q2⟩ := readss_of I ds h2 r2
      rw [toPys]
      exact ⟨_, .cons q1 q2⟩
end
end
end L2

/-! OWN RULES: l.insert(i, x), l.index(x) of data -/
namespace L2
open PySem PySem.Spec PyProof.Rows
section
variable {X : Cx}
theorem vals_take {xs : List V} {us : List Value} (h : Vals xs us) : ∀ n, Vals (xs.take n) (us.take n) := by
  induction h with
  | nil => intro n; rw [List.take_nil, List.take_nil]; exact .nil
  | cons r _ ih =>
    intro n
    cases n with
    | zero => exact .nil
    | succ n => exact .cons r (ih n)
theorem vals_drop {xs : List V} {us : List Value} (h : Vals xs us) : ∀ n, Vals (xs.drop n) (us.drop n) := by
  induction h with
  | nil => intro n; rw [List.drop_nil, List.drop_nil]; exact .nil
  | cons r t ih =>
    intro n
    cases n with
    | zero => exact .cons r t
    | succ n => exact ih n
theorem vals_app {a : List V} {b : List Value} {c : List V} {d : List Value} (p : Vals a b) (q : Vals c d) : Vals (a ++ c) (b ++ d) := by
  induction p with
  | nil => exact q
  | cons r _ ih => exact .cons r ih
theorem mt_insertA : MtM X "list.insert" (fun x vs H Q => ∃ l xs i y, x = .ref l ∧ vs = [.int i, y] ∧ H l = some (.lst xs) ∧ 0 ≤ i ∧ i ≤ (xs.length : Int) ∧ xs.length < 2 ^ 20 ∧ ∀ H', Put H l (.lst (xs.take i.toNat ++ y :: xs.drop i.toNat)) H' → Q .non H') := by
  intro pins s σ H x vs v us Q I rx rv h
  obtain ⟨l, xs, i, y, rfl, rfl, hH, h0, h1, hz, q⟩ := h
  cases rx
  cases rv with
  | cons r1 rr =>
    cases rr with
    | cons r2 rr =>
      cases rr
      obtain ⟨t, rfl⟩ := r1
      rename_i uy
      obtain ⟨z, its, n, r, hl, e⟩ := I.lstM hH
      have hlen := r.length
      refine call_meets F.slot_list_insert ⟨_, e, rfl⟩ F.entry_list_insert (F.args_list_insert_3 _ _ _) (AutoSeq1.list_insert_list_int_val_1 l its.toArray n i t uy ?_ (by rw [List.size_toArray]; omega)) ⟨e, ?_⟩
      · unfold Builtin.List.listFitsIndex
        simp
        omega
      · refine ⟨.non, _, I.lset (its' := its.take i.toNat ++ uy :: its.drop i.toNat) hH e ?_ (vals_app (vals_take r _) (.cons r2 (vals_drop r _))) ?_, rfl, q _ Put.up⟩
        · have ek : (if i < 0 then (i + (its.toArray.size : Int)).toNat else min i.toNat its.toArray.size) = i.toNat := by
            rw [if_neg (by omega), List.size_toArray]
            omega
          show ((its.toArray.extract 0 (if i < 0 then (i + (its.toArray.size : Int)).toNat else min i.toNat its.toArray.size)).push uy ++ its.toArray.extract (if i < 0 then (i + (its.toArray.size : Int)).toNat else min i.toNat its.toArray.size)) = _
          rw [ek]
          apply Array.ext'
          simp [List.extract_eq_drop_take, List.take_of_length_le]
        · rw [List.length_append, List.length_cons, List.length_take, List.length_drop]
          show _ ≤ 2 ^ 24
          omega
theorem mt_indexD : MtM X "list.index" (fun x vs H Q => ∃ l xs ds y d j d', x = .ref l ∧ vs = [y] ∧ H l = some (.lst xs) ∧ HasL X.K H ds xs ∧ Has X.K H d y ∧ ds[j]? = some d' ∧ eqD d' d = true ∧ (∀ (m : Nat) (e : Dt), m < j → ds[m]? = some e → eqD e d = false) ∧ X.A.units + 5 + dptL ds < cLine ∧ Q (.int (j : Nat)) H) := by
  intro pins s σ H x vs v us Q I rx rv h
  obtain ⟨l, xs, ds, y, d, j, d', rfl, rfl, hH, hl, hd, hj, hj1, hj2, hA, q⟩ := h
  cases rx
  cases rv with
  | cons r1 rr =>
    cases rr
    rename_i uy
    obtain ⟨z, its, n, r, hll, e⟩ := I.lstM hH
    have hlen := r.length
    have hdl := hl.len
    have hjd : j < ds.length := (List.getElem?_eq_some_iff.mp hj).1
    have hji : j < its.length := by omega
    obtain ⟨f, f1, f2, f3⟩ := eq_all I (A := X.A.in1) (n := dptL ds) (by show X.A.units + 1 + _ < _; omega) hd r1 (Nat.le_refl _) hl r
    have at_ : ∀ (m : Nat) (e : Dt) (hm : m < its.length), ds[m]? = some e → f its[m] = eqD e d := fun m e hm he => by
      have hmd : m < ds.length := (List.getElem?_eq_some_iff.mp he).1
      have ee : ds[m] = e := by rw [List.getElem?_eq_getElem hmd] at he; exact Option.some.inj he
      have : (its[m], ds[m]) ∈ its.zip ds := by
        have hz : m < (its.zip ds).length := by rw [List.length_zip]; omega
        have := List.getElem_mem hz
        rw [List.getElem_zip] at this
        exact this
      rw [← ee]
      exact f2 _ this
    refine call_meets F.slot_list_index ⟨_, e, rfl⟩ F.entry_list_index (F.args_list_index_2 _ _) (SeqAt.list_indexAt l its.toArray n _ _ uy f j (by simpa using hji) ?_ ?_ ?_) ⟨e, ?_, ?_⟩
    · have : its.length ≤ 2 ^ 24 := by rw [← hlen]; exact z
      omega
    · simp only [List.getElem_toArray]
      rw [at_ j d' hji hj]
      exact hj1
    · intro m hm hmj
      have hm' : m < its.length := by simpa using hm
      simp only [List.getElem_toArray]
      have hmd : m < ds.length := by omega
      rw [at_ m ds[m] hm' (List.getElem?_eq_getElem hmd)]
      exact hj2 m _ hmj (List.getElem?_eq_getElem hmd)
    · intro y hy
      exact f1 y (by simpa using hy)
    · exact ⟨.int (j : Nat), H, I.tok _, ⟨_, rfl⟩, q⟩
end
end L2

namespace Mp
open PySem L2
def top (i : Nat) : Stmt := PySem.Challenge.pw_millpath_k31_cut_by_the_grain.main.body.getD i (.Pass ⟨0, 0, 0, 0⟩)
abbrev s_stepped : Stmt := top 2
abbrev s_straight : Stmt := top 3
abbrev s_with_grain : Stmt := top 8
abbrev s_lie_of_step : Stmt := top 9
abbrev s_turned : Stmt := top 10
abbrev s_runs : Stmt := top 14
abbrev s_run_from : Stmt := top 15
abbrev s_next_direction : Stmt := top 16
abbrev s_closed : Stmt := top 17
abbrev s_begin : Stmt := top 19
abbrev s_take : Stmt := top 20
abbrev s_same : Stmt := top 21
abbrev s_ways : Stmt := top 22
abbrev s_points : Stmt := top 23
abbrev s_walk : Stmt := top 24
abbrev s_side : Stmt := top 25
abbrev s_pieces : Stmt := top 26
abbrev s_right : Stmt := top 27
abbrev s_law : Stmt := top 28
end Mp
namespace Mp
open PySem L2
/-! ### the draws' state -/
theorem valV_hit {kvs : List (Key × V)} {k : Key} {v : V} : valV ((k, v) :: kvs) k = some v := by
  unfold valV
  rw [List.find?_cons, show (decide ((k, v).1 = k)) = true from decide_eq_true rfl]
  rfl
theorem valV_miss {kvs : List (Key × V)} {k k' : Key} {v : V} (h : ¬ k = k') : valV ((k, v) :: kvs) k' = valV kvs k' := by
  unfold valV
  rw [List.find?_cons, show (decide ((k, v).1 = k')) = false from decide_eq_false h]
theorem key_ne : ¬ ((Sum.inr ("cells" : Str) : Key) = Sum.inr ("turn" : Str)) := by decide +kernel
def stK (c : Addr) (t : Int) : List (Key × V) := [(Sum.inr ("cells" : Str), V.ref c), (Sum.inr ("turn" : Str), V.int t)]
theorem st_cells (c : Addr) (t : Int) : valV (stK c t) (Sum.inr ("cells" : Str)) = some (.ref c) := valV_hit
theorem st_turn (c : Addr) (t : Int) : valV (stK c t) (Sum.inr ("turn" : Str)) = some (.int t) := by
  unfold stK
  rw [valV_miss key_ne]
  exact valV_hit
theorem st_put (c : Addr) (t u : Int) : putK (stK c t) (Sum.inr ("turn" : Str)) (.int u) = stK c u := by
  have e : ((stK c t).any fun kv => decide (kv.1 = (Sum.inr ("turn" : Str) : Key))) = true := by
    rw [valV_any, st_turn]; rfl
  unfold putK
  rw [if_pos e]
  show [(if (Sum.inr ("cells" : Str) : Key) = Sum.inr ("turn" : Str) then _ else _), (if (Sum.inr ("turn" : Str) : Key) = Sum.inr ("turn" : Str) then _ else _)] = stK c u
  rw [if_neg key_ne, if_pos rfl]
  rfl
structure StAt (H : Hp) (st c : Addr) (cs : List Int) (t : Int) : Prop where
  d : H st = some (.dK (stK c t))
  l : H c = some (.lst (cs.map V.int))
  pos : 0 < cs.length
  len : cs.length ≤ 63
theorem StAt.ne {H : Hp} {st c : Addr} {cs : List Int} {t : Int} (S : StAt H st c cs t) : st ≠ c := ne_of S.d S.l (by intro z; cases z)
theorem StAt.same {H H' : Hp} {st c : Addr} {cs : List Int} {t : Int} (S : StAt H st c cs t) (e : Same H H') : StAt H' st c cs t := ⟨e _ _ S.d, e _ _ S.l, S.pos, S.len⟩
structure Txt (mg : Str → Option Value) : Prop where
  len : mg "len" = none
  list : mg "list" = none
  divmod : mg "divmod" = none
  isinstance : mg "isinstance" = none
  dict : mg "dict" = none
  tuple : mg "tuple" = none
  str : mg "str" = none
  int : mg "int" = none
  bool : mg "bool" = none
  all : mg "all" = none
  any : mg "any" = none
  zip : mg "zip" = none
  range : mg "range" = none
  max : mg "max" = none
  min : mg "min" = none
  abs : mg "abs" = none
  sum : mg "sum" = none
  sorted : mg "sorted" = none
  enumerate : mg "enumerate" = none
  set : mg "set" = none
  reversed : mg "reversed" = none
def spBegin (K : PySem.W.Frag) : Sp := fun vs H Q _ => ∃ (a : Addr) (ns : List Int), vs = [.ref a] ∧ SqL K H a (ns.map V.int) ∧ ns.length ≤ 63 ∧ ∀ (st c : Addr) (cs : List Int) (H' : Hp), H st = none → H c = none → StAt H' st c cs 0 → Same H H' → Q (.ref st) H'
def spTake : Sp := fun vs H Q _ => ∃ (st c : Addr) (cs : List Int) (t m : Int), vs = [.ref st, .int m] ∧ StAt H st c cs t ∧ 0 ≤ t ∧ t < 2 ^ 40 ∧ 0 < m ∧ m < 1073741824 ∧
  ∀ (r : Int) (cs' : List Int) (H' : Hp), 0 ≤ r → r < m → StAt H' st c cs' (t + 1) → Kp st c H H' → Q (.int r) H'
section
variable {P : Program} {w : World} {K : PySem.W.Frag} {mg : Str → Option Value} {base : Heap}
theorem scB : FnScope ["_law_script", "_law_cells"] ["_law_script"] (defScope s_begin) := ⟨rfl, rfl, rfl, by decide +kernel, rfl, by decide +kernel, by decide +kernel⟩
theorem ok_begin {f : Addr} {fd : FuncData} (F : Fun K "_law_begin" "_law_begin" s_begin f fd) (T : Txt mg) : FnOk P w K mg base CX0 1 f fd ["_law_script"] (spBegin K) := by
  refine F.ok scB (fun vs H Q E h => ?_) (fun cdv A outer s H vs Q E hr h => ?_)
  · obtain ⟨a, ns, rfl, _⟩ := h
    rfl
  obtain ⟨a, ns, rfl, hS, h63, q⟩ := h
  have sc := @scB
  refine ⟨_, (pss_cons (ps_set (i := 1) sc.nd rfl (Or.inl rfl) (pe_callTy call_list_of (by rfl) T.list (by decide +kernel) (pa_cons (pe_slice sl_list (pv 0) po_none (po_some pe_int)) pa_nil)))
    (pss_cons (ps_if (pt_cmpR op_eqD (pv 1) (pe_lst pa_nil) (nomark _)) (pss_one (ps_set (i := 1) sc.nd rfl (Or.inl rfl) (pe_lst (pa_cons pe_int pa_nil)))) pss_nil)
    (pss_one (ps_ret (pe_disp (pps_cons pe_str (pv 1) (pps_cons pe_str pe_int pps_nil)) rfl rfl (by intro z; cases z) (by decide)))))), ?_⟩
  refine ⟨_, rfl, _, rfl, a, _, rfl, hS, fun p hp => ⟨p, _, rfl, .inl (SqL.of upd_same), fun l hl => ?_⟩⟩
  obtain ⟨zs, ez, lz⟩ : ∃ zs : List Int, cutV (ns.map V.int) none (some 63) = zs.map V.int ∧ zs.length ≤ 63 := by
    refine ⟨_, by unfold cutV; rw [← List.map_drop, ← List.map_take], ?_⟩
    exact Nat.le_trans (List.length_take_le' _ _) (Nat.le_trans (by rw [List.length_drop]; omega) h63)
  have hp0 : H p = none := hp
  have hl0 : H l = none := (same_new hp _).none hl
  have g1 : Same H (upd (upd H p (.lst (cutV (ns.map V.int) none (some 63)))) l (.lst (cutV (ns.map V.int) none (some 63)))) := (same_new hp _).trans' (same_new hl _)
  refine ⟨_, rfl, (by show 0 ≤ sizeLine; decide), fun e he => ?_⟩
  have hul : ∀ o, upd (upd (upd H p (.lst (cutV (ns.map V.int) none (some 63)))) l (.lst (cutV (ns.map V.int) none (some 63)))) e o l = some (.lst (zs.map V.int)) := fun o => by
    rw [upd_ne (ne_of_none upd_same he), upd_same, ez]
  have he0 : H e = none := g1.none he
  have g2 := g1.trans' (same_new he (.lst []))
  refine ⟨.lst (di zs), .lst (di []), has_lstI (SqL.of (hul _)), has_lstI (SqL.of upd_same), ?_, _, rfl, ?_⟩
  · have := hu_of hr
    rw [dpt, dptL_ints]
    exact this
  have fin : ∀ (c : Addr) (cs : List Int) (H2 : Hp), H c = none → Same H H2 → H2 c = some (.lst (cs.map V.int)) → 0 < cs.length → cs.length ≤ 63 → ∀ p, H2 p = none → StAt (upd (upd H2 p (.dK [])) p (.dK (mergeK [] [(Sum.inr ("cells" : Str), V.ref c), (Sum.inr ("turn" : Str), V.int 0)]))) p c cs 0 ∧ Same H (upd (upd H2 p (.dK [])) p (.dK (mergeK [] [(Sum.inr ("cells" : Str), V.ref c), (Sum.inr ("turn" : Str), V.int 0)]))) := fun c cs H2 hc g h1 h2 h3 p hp => by
    have em : mergeK [] [((Sum.inr ("cells" : Str) : Key), V.ref c), (Sum.inr ("turn" : Str), V.int 0)] = stK c 0 := by
      show putK (putK ([] : List (Key × V)) (Sum.inr ("cells" : Str)) (V.ref c)) (Sum.inr ("turn" : Str)) (V.int 0) = stK c 0
      rw [putK_new _ (show valV ([] : List (Key × V)) (Sum.inr ("cells" : Str)) = none from rfl), List.nil_append, putK_new _ (show valV [((Sum.inr ("cells" : Str) : Key), V.ref c)] (Sum.inr ("turn" : Str)) = none by rw [valV_miss key_ne]; rfl)]
      rfl
    rw [em, upd_upd]
    exact ⟨⟨upd_same, by rw [upd_ne (ne_of_none h1 hp)]; exact h1, h2, h3⟩, g.trans' (same_new hp _)⟩
  refine iteB (fun c => ?_) (fun c => ?_)
  · -- an empty script: [7]
    refine ⟨(by show 1 ≤ sizeLine; decide), fun c7 h7 => ?_⟩
    have g3 := g2.trans' (same_new h7 (.lst [V.int 7]))
    intro p' hp'
    obtain ⟨S, g4⟩ := fin c7 [7] _ (g2.none h7) g3 upd_same (by decide) (by decide) p' hp'
    refine ⟨_, rfl, ?_, [(Sum.inr ("cells" : Str), V.ref c7), (Sum.inr ("turn" : Str), V.int 0)], rfl, (by show 2 ≤ 15; decide), ?_⟩
    · exact upd_same
    · exact q p' c7 [7] _ (g3.none hp') (g2.none h7) S g4
  · have c0 : 0 < zs.length := by
      cases zs with
      | nil => rw [eqD_same] at c; cases c
      | cons a r => exact Nat.succ_pos _
    intro p' hp'
    obtain ⟨S, g4⟩ := fin l zs _ hl0 g2 (hul _) c0 lz p' hp'
    refine ⟨_, rfl, ?_, [(Sum.inr ("cells" : Str), V.ref l), (Sum.inr ("turn" : Str), V.int 0)], rfl, (by show 2 ≤ 15; decide), ?_⟩
    · exact upd_same
    · exact q p' l zs _ (g2.none hp') hl0 S g4
theorem scT : FnScope ["_law_state", "_law_many", "_law_turn", "_law_place", "_law_cell", "_law_digit", "_law_mixed"] ["_law_state", "_law_many"] (defScope s_take) := ⟨rfl, rfl, rfl, by decide +kernel, rfl, by decide +kernel, by decide +kernel⟩
theorem ok_take {f : Addr} {fd : FuncData} (F : Fun K "_law_take" "_law_take" s_take f fd) (T : Txt mg) : FnOk P w K mg base CX0 1 f fd ["_law_state", "_law_many"] spTake := by
  refine F.ok scT (fun vs H Q E h => ?_) (fun cdv A outer s H vs Q E hr h => ?_)
  · obtain ⟨st, c, cs, t, m, rfl, _⟩ := h
    rfl
  obtain ⟨st, c, cs, t, m, rfl, S, ht0, ht, hm0, hm1, q⟩ := h
  have sc := @scT
  have hu := hu_of hr
  refine ⟨_, (pss_cons (ps_set (i := 2) sc.nd rfl (Or.inl rfl) (pe_op op_add (pe_dget hu (pv 0) pe_str (fun _ _ => rfl)) pe_int))
    (pss_cons (ps_dput hu (pv 0) pe_str (pv 2) rfl)
    (pss_cons (ps_set (i := 3) sc.nd rfl (Or.inl rfl) (pe_op op_mod (pv 2) (pe_callB call_len_seq (by rfl) T.len (by decide +kernel) (pa_cons (pe_dget hu (pv 0) pe_str (fun _ _ => rfl)) pa_nil))))
    (pss_cons (ps_set (i := 4) sc.nd rfl (Or.inl rfl) (pe_ix ix_list (pe_dget hu (pv 0) pe_str (fun _ _ => rfl)) (pv 3) (fun _ _ => rfl)))
    (pss_cons (ps_if (pt_cmpR op_ge (pv 4) (pe_op op_pow pe_int pe_int) (nomark _)) (pss_cons (ps_asg (pe_callB call_divmod (by rfl) T.divmod (by decide +kernel) (pa_cons (pv 4) (pa_cons (pv 1) pa_nil))) (pg_tup rfl (pgs_cons (pg_sub (pe_dget hu (pv 0) pe_str (fun _ _ => rfl)) (pv 3) set_list) (pgs_cons (pg_name (i := 5) sc.nd rfl (Or.inl rfl)) pgs_nil))))
    (pss_one (ps_ret (pv 5)))) pss_nil)
    (pss_cons (ps_set (i := 6) sc.nd rfl (Or.inl rfl) (pe_op op_mod (pe_op op_mul (pe_op op_add (pe_op op_add (pe_op op_mod (pv 4) pe_int) (pe_op op_mul (pe_op op_mul (pv 2) (pv 2)) pe_int)) pe_int) pe_int) pe_int))
    (pss_cons (ps_set (i := 6) sc.nd rfl (Or.inl rfl) (pe_op op_mod (pe_op op_mul (pv 6) (pv 6)) pe_int))
    (pss_one (ps_ret (pe_op op_mod (pe_op op_fdiv (pe_op op_mod (pe_op op_mul (pe_op op_add (pv 6) (pe_op op_mul (pv 2) pe_int)) pe_int) pe_int) pe_int) (pv 1))))))))))), ?_⟩
  -- turn = state['turn'] + 1
  have D0 : DGet H st (.str ("turn" : Str)) (some (.int t)) := by rw [← st_turn c t]; exact DGet.k (k := Sum.inr ("turn" : Str)) S.d
  refine ⟨_, rfl, st, _, rfl, D0, _, _, rfl, rfl, ?_⟩
  -- state['turn'] = turn
  have hP : DPut H st (.str ("turn" : Str)) (.int (t + 1)) (upd H st (.dK (stK c (t + 1)))) := by
    rw [← st_put c t (t + 1)]
    exact DPut.k (k := Sum.inr ("turn" : Str)) S.d (by show 2 < sizeLine; decide)
  refine ⟨_, rfl, _, rfl, st, _, rfl, hP, ?_⟩
  have S1 : StAt (upd H st (.dK (stK c (t + 1)))) st c cs (t + 1) := ⟨upd_same, by rw [upd_ne S.ne.symm]; exact S.l, S.pos, S.len⟩
  have K1 : Kp st c H (upd H st (.dK (stK c (t + 1)))) := fun b o e n1 n2 => by rw [upd_ne n1]; exact e
  generalize upd H st (.dK (stK c (t + 1))) = H1 at S1 K1 ⊢
  have D1 : DGet H1 st (.str ("cells" : Str)) (some (.ref c)) := by rw [← st_cells c (t + 1)]; exact DGet.k (k := Sum.inr ("cells" : Str)) S1.d
  have hl : (cs.map V.int).length = cs.length := List.length_map _
  have hpos : (0 : Int) < (((cs.map V.int).length : Nat) : Int) := by rw [hl]; have := S.pos; omega
  -- place = turn % len(cells)
  refine ⟨_, rfl, _, rfl, st, _, rfl, D1, c, _, rfl, .inl (SqL.of S1.l), _, _, rfl, rfl, hpos, ?_⟩
  have j0 : 0 ≤ (t + 1) % (((cs.map V.int).length : Nat) : Int) := Int.emod_nonneg _ (by omega)
  have j1 : (t + 1) % (((cs.map V.int).length : Nat) : Int) < (cs.length : Int) := by
    have := Int.emod_lt_of_pos (t + 1) hpos
    rw [hl] at this ⊢
    exact this
  -- cell = cells[place]
  obtain ⟨v, hat⟩ : ∃ v : Int, atI (cs.map V.int) ((t + 1) % (((cs.map V.int).length : Nat) : Int)) = some (.int v) := ⟨_, atI_ints j0 j1⟩
  refine ⟨_, rfl, st, _, rfl, D1, _, rfl, c, _, _, _, rfl, rfl, SqL.of S1.l, hat, ?_⟩
  -- if cell >= 10 ** 18
  refine ⟨_, rfl, _, _, rfl, rfl, ⟨by decide, by decide, by decide⟩, _, _, rfl, rfl, _, rfl, ?_⟩
  refine iteB (fun hc => ?_) (fun hc => ?_)
  · -- divmod
    refine ⟨_, rfl, _, rfl, _, _, rfl, ⟨hm0, hm1⟩, fun p hp => ?_⟩
    have g := same_new hp (.tup [.int (v / m), .int (v % m)])
    have S2 := S1.same g
    have D2 : DGet (upd H1 p (.tup [.int (v / m), .int (v % m)])) st (.str ("cells" : Str)) (some (.ref c)) := by rw [← st_cells c (t + 1)]; exact DGet.k (k := Sum.inr ("cells" : Str)) S2.d
    refine ⟨p, _, rfl, SqT.of upd_same, rfl, _, _, rfl, ?_⟩
    refine ⟨_, rfl, st, _, rfl, D2, _, rfl, c, _, _, ((t + 1) % (((cs.map V.int).length : Nat) : Int)).toNat, rfl, rfl, S2.l, ixN_int j0 (by rw [hl]; rw [hl] at j1; exact j1), ?_⟩
    refine ⟨_, _, rfl, rfl, ?_⟩
    refine ⟨_, rfl, ?_⟩
    have es : ∀ j : Nat, (cs.map V.int).set j (.int (v / m)) = (cs.set j (v / m)).map V.int := fun j => by rw [List.map_set]
    refine q (v % m) (cs.set ((t + 1) % (((cs.map V.int).length : Nat) : Int)).toNat (v / m)) _ (Int.emod_nonneg _ (by omega)) (Int.emod_lt_of_pos _ hm0) ⟨?_, ?_, ?_, ?_⟩ ?_
    · rw [upd_ne S2.ne]; exact S2.d
    · rw [upd_same, es]
    · rw [List.length_set]; exact S.pos
    · rw [List.length_set]; exact S.len
    · intro b o e n1 n2
      rw [upd_ne n2]
      exact g b o (K1 b o e n1 n2)
  · -- mixed
    have mulR : ∀ (x y : Int), -(2 ^ 64) < y → y < 2 ^ 64 → CMul x y := fun x y h1 h2 => .inr ⟨h1, h2⟩
    refine ⟨_, rfl, _, _, rfl, rfl, (by show (0 : Int) < 2147483629; decide), _, rfl, _, rfl, _, _, rfl, rfl, mulR _ _ (by omega) (by omega), _, _, rfl, rfl, mulR _ _ (by decide) (by decide), _, _, rfl, rfl, _, _, rfl, rfl, _, _, rfl, rfl, mulR _ _ (by decide) (by decide), _, _, rfl, rfl, (by show (0 : Int) < 2147483647; decide), ?_⟩
    generalize hM : (v % 2147483629 + (t + 1) * (t + 1) * 7919 + 11) * 48271 % 2147483647 = M
    have m0 : 0 ≤ M := by rw [← hM]; exact Int.emod_nonneg _ (by decide)
    have m1 : M < 2147483647 := by rw [← hM]; exact Int.emod_lt_of_pos _ (by decide)
    refine ⟨_, rfl, _, rfl, _, _, rfl, rfl, mulR _ _ (by omega) (by omega), _, _, rfl, rfl, (by show (0 : Int) < 2147483587; decide), ?_⟩
    refine ⟨_, rfl, _, rfl, _, _, rfl, rfl, mulR _ _ (by decide) (by decide), _, _, rfl, rfl, _, _, rfl, rfl, mulR _ _ (by decide) (by decide), _, _, rfl, rfl, (by show (0 : Int) < 2147483629; decide), _, _, rfl, rfl, ⟨by decide, by decide⟩, _, rfl, _, _, rfl, rfl, hm0, ?_⟩
    exact q _ cs H1 (Int.emod_nonneg _ (by omega)) (Int.emod_lt_of_pos _ hm0) S1 K1
end
end Mp

namespace Mp
open PySem L2
/-! ### _law_same of equal data -/
mutual
def gd : Dt → Bool
  | .bl _ => false
  | .lst ds => decide (ds.length ≤ 100000) && gdL ds
  | .tup ds => decide (ds.length ≤ 100000) && gdL ds
  | _ => true
def gdL : List Dt → Bool
  | [] => true
  | d :: r => gd d && gdL r
end
theorem gdL_get : ∀ {ds : List Dt} {i : Nat} {d : Dt}, gdL ds = true → ds[i]? = some d → gd d = true
  | [], i, d, _, e => by simp at e
  | c :: r, 0, d, h, e => by
    rw [gdL, Bool.and_eq_true] at h
    simp at e
    subst e
    exact h.1
  | c :: r, i + 1, d, h, e => by
    rw [gdL, Bool.and_eq_true] at h
    exact gdL_get h.2 (i := i) (by simpa using e)
theorem gdL_ints : ∀ ns : List Int, gdL (di ns) = true
  | [] => by simp [di, gdL]
  | n :: r => by
    have ih := gdL_ints r
    show gdL (Dt.int n :: di r) = true
    simp [gdL, gd, ih]
theorem gd_tup {ns : List Int} (h : ns.length ≤ 100000) : gd (.tup (di ns)) = true := by
  rw [gd, gdL_ints, decide_eq_true (by rw [di, List.length_map]; exact h)]; rfl
def spSame (K : PySem.W.Frag) (n : Nat) : Sp := fun vs H Q _ => ∃ (x y : V) (d : Dt), vs = [x, y] ∧ Has K H d x ∧ Has K H d y ∧ gd d = true ∧ dpt d < n ∧ ∀ H', Same H H' → Q (.bl true) H'
theorem map_same {α : Type} (n : Nat) (c : α) : (List.range n).map (fun _ => c) = List.replicate n c := by
  induction n with
  | zero => rfl
  | succ n ih => rw [List.range_succ, List.map_append, ih, List.map_singleton, List.replicate_succ']
theorem filter_true (n : Nat) : (List.range n).filter (fun _ => true) = List.range n := by simp
section
variable {P : Program} {w : World} {K : PySem.W.Frag} {mg : Str → Option Value} {base : Heap}
theorem scS : FnScope ["_law_found", "_law_due"] ["_law_found", "_law_due"] (defScope s_same) := ⟨rfl, rfl, rfl, by decide +kernel, rfl, by decide +kernel, by decide +kernel⟩
set_option maxHeartbeats 1000000 in
theorem ok_same {n : Nat} {f : Addr} {fd : FuncData} (F : Fun K "_law_same" "_law_same" s_same f fd) (T : Txt mg) (G_same : Cal P w K mg base n "_law_same" ["_law_found", "_law_due"] (spSame K n)) :
    FnOk P w K mg base CX0 (n + 1) f fd ["_law_found", "_law_due"] (spSame K (n + 1)) := by
  refine F.ok scS (fun vs H Q E h => ?_) (fun cdv A outer s H vs Q E hr h => ?_)
  · obtain ⟨x, y, d, rfl, _⟩ := h
    rfl
  obtain ⟨x, y, d, rfl, hx, hy, hg, hd, q⟩ := h
  have sc := @scS
  have nd2 : (["_law_one", "_law_other"] : List Str).Nodup := by decide +kernel
  refine ⟨_, (pss_cons (ps_if (pt_cmp (pc_isN (pv 1))) (pss_one (ps_ret (pe_cmp (pc_isN (pv 0))))) pss_nil)
    (pss_cons (ps_if (pt_val (pe_callB call_isinst (by rfl) T.isinstance (by decide +kernel) (pa_cons (pv 1) (pa_cons (pe_bltn (v := .ty (Ty.nm .dct)) (by rfl) T.dict (by decide +kernel) rfl) pa_nil)))) pss_never pss_nil)
    (pss_cons (ps_if (PW.pt (pw_or (pt_val (pe_callB call_isinst (by rfl) T.isinstance (by decide +kernel) (pa_cons (pv 1) (pa_cons (pe_bltn (v := .ty (Ty.nm .lst)) (by rfl) T.list (by decide +kernel) rfl) pa_nil)))) (pw_or1 (pt_val (pe_callB call_isinst (by rfl) T.isinstance (by decide +kernel) (pa_cons (pv 1) (pa_cons (pe_bltn (v := .ty (Ty.nm .tup)) (by rfl) T.tuple (by decide +kernel) rfl) pa_nil)))))))
      (pss_cons (ps_if (pt_cmpR op_ne (pe_callB call_isinst (by rfl) T.isinstance (by decide +kernel) (pa_cons (pv 0) (pa_cons (pe_bltn (v := .ty (Ty.nm .lst)) (by rfl) T.list (by decide +kernel) rfl) pa_nil))) (pe_callB call_isinst (by rfl) T.isinstance (by decide +kernel) (pa_cons (pv 1) (pa_cons (pe_bltn (v := .ty (Ty.nm .lst)) (by rfl) T.list (by decide +kernel) rfl) pa_nil))) (nomark _)) (pss_one (ps_ret pe_bl)) pss_nil)
      (pss_cons (ps_if (PW.pt (pw_or (pt_cmpR op_ne (pe_callB call_isinst (by rfl) T.isinstance (by decide +kernel) (pa_cons (pv 0) (pa_cons (pe_bltn (v := .ty (Ty.nm .tup)) (by rfl) T.tuple (by decide +kernel) rfl) pa_nil))) (pe_callB call_isinst (by rfl) T.isinstance (by decide +kernel) (pa_cons (pv 1) (pa_cons (pe_bltn (v := .ty (Ty.nm .tup)) (by rfl) T.tuple (by decide +kernel) rfl) pa_nil))) (nomark _)) (pw_or1 (pt_cmpR op_ne (pe_callB call_len_seq (by rfl) T.len (by decide +kernel) (pa_cons (pv 0) pa_nil)) (pe_callB call_len_seq (by rfl) T.len (by decide +kernel) (pa_cons (pv 1) pa_nil)) (nomark _))))) (pss_one (ps_ret pe_bl)) pss_nil)
      (pss_one (ps_ret (pe_callB (call_all rfl) (by rfl) T.all (by decide +kernel) (pa_cons (pe_compF sc ["_law_one", "_law_other"] [none, none] nd2 (by decide +kernel) (pi_zip (by rfl) T.zip (pa_cons (pv 0) (pa_cons (pv 1) pa_nil))) (fun _ _ _ => (pg_tup rfl (pgs_cons (pg_name (i := 0) nd2 rfl (Or.inl rfl) (Or.inr rfl)) (pgs_cons (pg_name (i := 1) nd2 rfl (Or.inl rfl) (Or.inr rfl)) pgs_nil)))) (fun _ _ _ => pts_nil) (fun _ _ _ => (pe_def G_same hr (by rfl) (pa_cons (pv 0) (pa_cons (pv 1) pa_nil))))) pa_nil)))))) pss_nil)
    (pss_cons (ps_if (pt_val (pe_callB call_isinst (by rfl) T.isinstance (by decide +kernel) (pa_cons (pv 1) (pa_cons (pe_bltn (v := .ty (Ty.nm .str)) (by rfl) T.str (by decide +kernel) rfl) pa_nil)))) (pss_one (ps_ret (pe_and (pe_callB call_isinst (by rfl) T.isinstance (by decide +kernel) (pa_cons (pv 0) (pa_cons (pe_bltn (v := .ty (Ty.nm .str)) (by rfl) T.str (by decide +kernel) rfl) pa_nil))) (pe_one (pe_cmpR op_eq (pv 0) (pv 1) (nomark _)))))) pss_nil)
    (pss_one (ps_ret (pe_and (pe_callB call_isinst (by rfl) T.isinstance (by decide +kernel) (pa_cons (pv 0) (pa_cons (pe_bltn (v := .ty (Ty.nm .int)) (by rfl) T.int (by decide +kernel) rfl) pa_nil))) (pe_and (pe_not (pe_callB call_isinst (by rfl) T.isinstance (by decide +kernel) (pa_cons (pv 0) (pa_cons (pe_bltn (v := .ty (Ty.nm .bl)) (by rfl) T.bool (by decide +kernel) rfl) pa_nil)))) (pe_one (pe_cmpR op_eq (pv 0) (pv 1) (nomark _))))))))))), ?_⟩
  cases d with
  | bl b => simp [gd] at hg
  | non =>
    rw [Has] at hx hy
    subst hx hy
    refine ⟨_, rfl, _, rfl, iteBT (by decide) ⟨_, rfl, ?_⟩⟩
    exact qtrue (by decide) (q H .rfl')
  | int i =>
    rw [Has] at hx hy
    subst hx hy
    refine ⟨_, rfl, _, rfl, iteBF (by simp) ?_⟩
    refine ⟨_, rfl, _, _, .int, [.dct], rfl, .int i, .inl ⟨_, rfl, rfl⟩, _, rfl, iteBF (by decide) ?_⟩
    refine ⟨_, rfl, _, _, .int, [.lst], rfl, .int i, .inl ⟨_, rfl, rfl⟩, _, rfl, iteBF (by decide) ?_⟩
    refine ⟨_, rfl, _, _, .int, [.tup], rfl, .int i, .inl ⟨_, rfl, rfl⟩, _, rfl, iteBF (by decide) ?_⟩
    refine ⟨_, rfl, _, _, .int, [.str], rfl, .int i, .inl ⟨_, rfl, rfl⟩, _, rfl, iteBF (by decide) ?_⟩
    refine ⟨_, rfl, _, _, .int, [.int], rfl, .int i, .inl ⟨_, rfl, rfl⟩, _, rfl, iteBT (by decide) ?_⟩
    refine ⟨_, rfl, _, _, .int, [.bl], rfl, .int i, .inl ⟨_, rfl, rfl⟩, _, rfl, _, rfl, iteBT (by decide) ?_⟩
    refine ⟨_, rfl, _, rfl, rfl, ?_⟩
    exact qtrue (by simp) (q H .rfl')
  | str i =>
    rw [Has] at hx hy
    subst hx hy
    refine ⟨_, rfl, _, rfl, iteBF (by simp) ?_⟩
    refine ⟨_, rfl, _, _, .str, [.dct], rfl, .str i, .inl ⟨_, rfl, rfl⟩, _, rfl, iteBF (by decide) ?_⟩
    refine ⟨_, rfl, _, _, .str, [.lst], rfl, .str i, .inl ⟨_, rfl, rfl⟩, _, rfl, iteBF (by decide) ?_⟩
    refine ⟨_, rfl, _, _, .str, [.tup], rfl, .str i, .inl ⟨_, rfl, rfl⟩, _, rfl, iteBF (by decide) ?_⟩
    refine ⟨_, rfl, _, _, .str, [.str], rfl, .str i, .inl ⟨_, rfl, rfl⟩, _, rfl, iteBT (by decide) ?_⟩
    refine ⟨_, rfl, _, _, .str, [.str], rfl, .str i, .inl ⟨_, rfl, rfl⟩, _, rfl, iteBT (by decide) ?_⟩
    refine ⟨_, rfl, _, rfl, rfl, ?_⟩
    exact qtrue (by simp) (q H .rfl')
  | lst ds =>
    rw [Has] at hx hy
    obtain ⟨a, xs, rfl, s1, l1⟩ := hx
    obtain ⟨b, ys, rfl, s2, l2⟩ := hy
    have m1 := l1.len
    have m2 := l2.len
    have hg2 : ds.length ≤ 100000 ∧ gdL ds = true := by simpa [gd] using hg
    have hd2 : dptL ds < n := by rw [dpt] at hd; omega
    refine ⟨_, rfl, _, rfl, iteBF (by simp) ?_⟩
    refine ⟨_, rfl, _, _, .lst, [.dct], rfl, .lst s2, .inl ⟨_, rfl, rfl⟩, _, rfl, iteBF (by decide) ?_⟩
    refine ⟨_, rfl, _, _, .lst, [.lst], rfl, .lst s2, .inl ⟨_, rfl, rfl⟩, _, rfl, iteBT (by decide) ?_⟩
    refine ⟨_, rfl, _, _, .lst, [.lst], rfl, .lst s1, .inl ⟨_, rfl, rfl⟩, _, rfl, _, _, .lst, [.lst], rfl, .lst s2, .inl ⟨_, rfl, rfl⟩, rfl, _, rfl, iteBF (by simp) ?_⟩
    refine ⟨_, rfl, _, _, .lst, [.tup], rfl, .lst s1, .inl ⟨_, rfl, rfl⟩, _, rfl, _, _, .lst, [.tup], rfl, .lst s2, .inl ⟨_, rfl, rfl⟩, rfl, _, rfl, iteBF (by simp) ?_⟩
    refine ⟨_, rfl, a, _, rfl, .inl s1, _, rfl, b, _, rfl, .inl s2, rfl, _, rfl, iteBF (by rw [← m1, ← m2]; simp) ?_⟩
    refine ⟨_, rfl, _, rfl, false, a, false, b, rfl, ⟨xs, s1⟩, ⟨ys, s2⟩, comp_gen (K := K) (fun σ' => σ'.length = 2) ds.length (by have := hg2.1; show ds.length < 2 ^ 24; omega) (fun _ => .bl true) (fun _ => true) (fun _ => by simp [tupO]) rfl
      (itz_go (b1 := false) (b2 := false) s1 s2 m1.symm m2.symm) (itz_stop (b1 := false) (b2 := false) s1 s2 m1.symm m2.symm) ?_ ?_⟩
    · intro s3 H3' fp i σ' H' hi ok sm x H2 hy Nx Ap _ hA
      obtain ⟨p', u, v, rfl, sm2, hp', hu, hv⟩ := itz_yld (b1 := false) (b2 := false) s1 s2 sm hy
      obtain ⟨z0, z1, rfl⟩ : ∃ z0 z1, σ' = [z0, z1] := by
        match σ', ok with
        | [z0, z1], _ => exact ⟨z0, z1, rfl⟩
      have sm3 := sm.trans' sm2
      refine ⟨p', _, rfl, SqT.of hp', rfl, u, [v], rfl, v, [], rfl, rfl, ?_⟩
      refine yes_then ?_
      refine ⟨_, rfl, _, rfl, u, v, ds[i], rfl, Has.same sm3 (l1.get (List.getElem?_eq_getElem hi) hu), Has.same sm3 (l2.get (List.getElem?_eq_getElem hi) hv), gdL_get hg2.2 (List.getElem?_eq_getElem hi), Nat.lt_of_le_of_lt (dptL_get (List.getElem?_eq_getElem hi)) hd2, fun H5 s5 => ?_⟩
      exact hA rfl _ _ H5 rfl (sm2.trans' s5) (by rw [Has])
    · intro p acc H' hp sm hacc hl
      have e : ((List.range ds.length).filter fun _ => true).map (fun _ => Dt.bl true) = (List.replicate ds.length true).map Dt.bl := by rw [filter_true, map_same, List.map_replicate]
      rw [e] at hl
      have hb := bools_hasL hl
      rw [hb] at hacc
      refine ⟨p, _, rfl, SqL.of hacc, ?_⟩
      exact qtrue (by simp) (q H' sm)
  | tup ds =>
    rw [Has] at hx hy
    obtain ⟨a, xs, rfl, s1, l1⟩ := hx
    obtain ⟨b, ys, rfl, s2, l2⟩ := hy
    have m1 := l1.len
    have m2 := l2.len
    have hg2 : ds.length ≤ 100000 ∧ gdL ds = true := by simpa [gd] using hg
    have hd2 : dptL ds < n := by rw [dpt] at hd; omega
    refine ⟨_, rfl, _, rfl, iteBF (by simp) ?_⟩
    refine ⟨_, rfl, _, _, .tup, [.dct], rfl, .tup s2, .inl ⟨_, rfl, rfl⟩, _, rfl, iteBF (by decide) ?_⟩
    refine ⟨_, rfl, _, _, .tup, [.lst], rfl, .tup s2, .inl ⟨_, rfl, rfl⟩, _, rfl, iteBF (by decide) ?_⟩
    refine ⟨_, rfl, _, _, .tup, [.tup], rfl, .tup s2, .inl ⟨_, rfl, rfl⟩, _, rfl, iteBT (by decide) ?_⟩
    refine ⟨_, rfl, _, _, .tup, [.lst], rfl, .tup s1, .inl ⟨_, rfl, rfl⟩, _, rfl, _, _, .tup, [.lst], rfl, .tup s2, .inl ⟨_, rfl, rfl⟩, rfl, _, rfl, iteBF (by simp) ?_⟩
    refine ⟨_, rfl, _, _, .tup, [.tup], rfl, .tup s1, .inl ⟨_, rfl, rfl⟩, _, rfl, _, _, .tup, [.tup], rfl, .tup s2, .inl ⟨_, rfl, rfl⟩, rfl, _, rfl, iteBF (by simp) ?_⟩
    refine ⟨_, rfl, a, _, rfl, .inr s1, _, rfl, b, _, rfl, .inr s2, rfl, _, rfl, iteBF (by rw [← m1, ← m2]; simp) ?_⟩
    refine ⟨_, rfl, _, rfl, true, a, true, b, rfl, ⟨xs, s1⟩, ⟨ys, s2⟩, comp_gen (K := K) (fun σ' => σ'.length = 2) ds.length (by have := hg2.1; show ds.length < 2 ^ 24; omega) (fun _ => .bl true) (fun _ => true) (fun _ => by simp [tupO]) rfl
      (itz_go (b1 := true) (b2 := true) s1 s2 m1.symm m2.symm) (itz_stop (b1 := true) (b2 := true) s1 s2 m1.symm m2.symm) ?_ ?_⟩
    · intro s3 H3' fp i σ' H' hi ok sm x H2 hy Nx Ap _ hA
      obtain ⟨p', u, v, rfl, sm2, hp', hu, hv⟩ := itz_yld (b1 := true) (b2 := true) s1 s2 sm hy
      obtain ⟨z0, z1, rfl⟩ : ∃ z0 z1, σ' = [z0, z1] := by
        match σ', ok with
        | [z0, z1], _ => exact ⟨z0, z1, rfl⟩
      have sm3 := sm.trans' sm2
      refine ⟨p', _, rfl, SqT.of hp', rfl, u, [v], rfl, v, [], rfl, rfl, ?_⟩
      refine yes_then ?_
      refine ⟨_, rfl, _, rfl, u, v, ds[i], rfl, Has.same sm3 (l1.get (List.getElem?_eq_getElem hi) hu), Has.same sm3 (l2.get (List.getElem?_eq_getElem hi) hv), gdL_get hg2.2 (List.getElem?_eq_getElem hi), Nat.lt_of_le_of_lt (dptL_get (List.getElem?_eq_getElem hi)) hd2, fun H5 s5 => ?_⟩
      exact hA rfl _ _ H5 rfl (sm2.trans' s5) (by rw [Has])
    · intro p acc H' hp sm hacc hl
      have e : ((List.range ds.length).filter fun _ => true).map (fun _ => Dt.bl true) = (List.replicate ds.length true).map Dt.bl := by rw [filter_true, map_same, List.map_replicate]
      rw [e] at hl
      have hb := bools_hasL hl
      rw [hb] at hacc
      refine ⟨p, _, rfl, SqL.of hacc, ?_⟩
      exact qtrue (by simp) (q H' sm)
theorem same_none {f : Addr} {fd : FuncData} : FnOk P w K mg base CX0 0 f fd ["_law_found", "_law_due"] (spSame K 0) := by
  have no : ∀ vs H Q E, ¬ spSame K 0 vs H Q E := fun vs H Q E h => by
    obtain ⟨x, y, d, _, _, _, _, h, _⟩ := h
    omega
  exact ⟨fun vs H Q E h => absurd h (no vs H Q E), fun A outer s H args us vs Q E _ _ _ _ h => absurd h (no vs H Q E)⟩
theorem cal_same (D : Dfn K mg "_law_same" s_same ["_law_found", "_law_due"]) (T : Txt mg) : ∀ n, Cal P w K mg base n "_law_same" ["_law_found", "_law_due"] (spSame K n)
  | 0 => D.cal fun _ _ _ => same_none
  | n + 1 => D.cal fun _ _ F => ok_same F T (cal_same D T n)
end
end Mp

namespace Mp
open PySem L2
def dx (i : Nat) : Int := [1, 1, 0, -1, -1, -1, 0, 1].getD i 0
def dy (i : Nat) : Int := [0, 1, 1, 1, 0, -1, -1, -1].getD i 0
structure StepsAt (K : PySem.W.Frag) (mg : Str → Option Value) (a : Addr) : Prop where
  m : mg "STEPS" = some (.ref a)
  it : ∀ H : Hp, ∃ ps : List V, SqT K H a ps ∧ ∀ i : Nat, i < 8 → ∃ p, ps[i]? = some (.ref p) ∧ SqT K H p [.int (dx i), .int (dy i)]
theorem dir8 {d : Int} (h0 : 0 ≤ d) (h1 : d < 8) : d = 0 ∨ d = 1 ∨ d = 2 ∨ d = 3 ∨ d = 4 ∨ d = 5 ∨ d = 6 ∨ d = 7 := by omega
theorem dx_small {d : Int} (h0 : 0 ≤ d) (h1 : d < 8) : -1 ≤ dx d.toNat ∧ dx d.toNat ≤ 1 := by
  rcases dir8 h0 h1 with rfl | rfl | rfl | rfl | rfl | rfl | rfl | rfl <;> decide
theorem dy_small {d : Int} (h0 : 0 ≤ d) (h1 : d < 8) : -1 ≤ dy d.toNat ∧ dy d.toNat ≤ 1 := by
  rcases dir8 h0 h1 with rfl | rfl | rfl | rfl | rfl | rfl | rfl | rfl <;> decide
def spStepped (K : PySem.W.Frag) : Sp := fun vs H Q _ => ∃ (b : Bool) (c : Addr) (x y d m : Int), vs = [.ref c, .int d, .int m] ∧ SqG b K H c [.int x, .int y] ∧ 0 ≤ d ∧ d < 8 ∧
  New (.tup [.int (x + dx d.toNat * m), .int (y + dy d.toNat * m)]) H Q
section
variable {P : Program} {w : World} {K : PySem.W.Frag} {mg : Str → Option Value} {base : Heap}
theorem scP : FnScope ["corner", "direction", "many", "step"] ["corner", "direction", "many"] (defScope s_stepped) := ⟨rfl, rfl, rfl, by decide +kernel, rfl, by decide +kernel, by decide +kernel⟩
theorem ok_stepped {f a : Addr} {fd : FuncData} (F : Fun K "stepped" "stepped" s_stepped f fd) (S : StepsAt K mg a) : FnOk P w K mg base CX0 1 f fd ["corner", "direction", "many"] (spStepped K) := by
  refine F.ok scP (fun vs H Q E h => ?_) (fun cdv A outer s H vs Q E hr h => ?_)
  · obtain ⟨b, c, x, y, d, m, rfl, _⟩ := h
    rfl
  obtain ⟨b, c, x, y, d, m, rfl, hc, h0, h1, q⟩ := h
  have sc := @scP
  refine ⟨_, (pss_cons (ps_set (i := 3) sc.nd rfl (Or.inl rfl) (pe_ix ix_seq (pe_glob (v := .ref a) (by rfl) S.m rfl) (pv 1) (fun _ _ => rfl)))
    (pss_one (ps_ret (pe_tupA (pa_cons (pe_op op_add (pe_ix ix_seq (pv 0) pe_int (fun _ _ => rfl)) (pe_op op_mul (pe_ix ix_seq (pv 3) pe_int (fun _ _ => rfl)) (pv 2))) (pa_cons (pe_op op_add (pe_ix ix_seq (pv 0) pe_int (fun _ _ => rfl)) (pe_op op_mul (pe_ix ix_seq (pv 3) pe_int (fun _ _ => rfl)) (pv 2))) pa_nil)))))), ?_⟩
  obtain ⟨ps, hS, hi⟩ := S.it H
  obtain ⟨p, hp, hq⟩ := hi d.toNat (by omega)
  have bx := dx_small h0 h1
  have by' := dy_small h0 h1
  refine ⟨_, rfl, rIx_sq (b := true) hS (atI_int h0 hp) ?_⟩
  refine ⟨_, rfl, rIx_sq (b := b) hc (atI_nat (j := 0) rfl) ?_⟩
  refine ⟨_, rfl, rIx_sq (b := true) hq (atI_nat (j := 0) rfl) ?_⟩
  refine ⟨_, rfl, _, _, rfl, rfl, .inl ⟨by omega, by omega⟩, _, _, rfl, rfl, ?_⟩
  refine ⟨_, rfl, rIx_sq (b := b) hc (atI_nat (j := 1) rfl) ?_⟩
  refine ⟨_, rfl, rIx_sq (b := true) hq (atI_nat (j := 1) rfl) ?_⟩
  refine ⟨_, rfl, _, _, rfl, rfl, .inl ⟨by omega, by omega⟩, _, _, rfl, rfl, (by show 2 ≤ sizeLine; decide), q⟩
end
end Mp


namespace Mp
def ab (i : Int) : Int := if i < 0 then -i else i
end Mp
namespace Mp
open PySem L2
/-! ### the direction between two corners -/
def ma (r u : Int) : Int := if ab u > ab r then ab u else ab r
theorem ma_nonneg (r u : Int) : 0 ≤ ma r u := by unfold ma ab; split <;> split <;> (try split) <;> omega
/-- o is the direction of (r, u), if there is one -/
def Hit (r u : Int) (j : Nat) : Prop := 0 < ma r u ∧ r = ma r u * dx j ∧ u = ma r u * dy j
def IsDir (r u : Int) : Option Nat → Prop
  | none => ∀ j, j < 8 → ¬ Hit r u j
  | some i => i < 8 ∧ Hit r u i
theorem dirs_apart : ∀ i j : Fin 8, dx i.val = dx j.val → dy i.val = dy j.val → i = j := by decide
theorem hit_one {r u : Int} {i j : Nat} (hi : i < 8) (hj : j < 8) (h : Hit r u i) (k : Hit r u j) : i = j := by
  obtain ⟨m0, a1, a2⟩ := h
  obtain ⟨_, b1, b2⟩ := k
  have e1 : ma r u * dx i = ma r u * dx j := by rw [← a1, ← b1]
  have e2 : ma r u * dy i = ma r u * dy j := by rw [← a2, ← b2]
  have ne : ma r u ≠ 0 := by omega
  have := dirs_apart ⟨i, hi⟩ ⟨j, hj⟩ (Int.eq_of_mul_eq_mul_left ne e1) (Int.eq_of_mul_eq_mul_left ne e2)
  exact congrArg Fin.val this
theorem isDir_one {r u : Int} {o o' : Option Nat} (h : IsDir r u o) (k : IsDir r u o') : o = o' := by
  cases o with
  | none =>
    cases o' with
    | none => rfl
    | some j => exact absurd k.2 (h j k.1)
  | some i =>
    cases o' with
    | none => exact absurd h.2 (k i h.1)
    | some j => rw [hit_one h.1 k.1 h.2 k.2]
/-- what is told -/
def dirD (m : Int) : Option Nat → Dt
  | none => .non
  | some i => .tup (di [(i : Int), m])
def spStraight (K : PySem.W.Frag) : Sp := fun vs H Q _ => ∃ (b b' : Bool) (c c' : Addr) (x y x' y' : Int), vs = [.ref c, .ref c'] ∧ SqG b K H c [.int x, .int y] ∧ SqG b' K H c' [.int x', .int y'] ∧
  ∀ (o : Option Nat) (v : V) (H' : Hp), IsDir (x' - x) (y' - y) o → Same H H' → Has K H' (dirD (ma (x' - x) (y' - y)) o) v → Q v H'
section
variable {P : Program} {w : World} {K : PySem.W.Frag} {mg : Str → Option Value} {base : Heap}
theorem scSt : FnScope ["one", "other", "many", "direction"] ["one", "other"] (defScope s_straight) := ⟨rfl, rfl, rfl, by decide +kernel, rfl, by decide +kernel, by decide +kernel⟩
theorem ok_straight {f aS : Addr} {fd : FuncData} (F : Fun K "straight" "straight" s_straight f fd) (T : Txt mg) (S : StepsAt K mg aS) (hS8 : ∀ H : Hp, ∃ ps : List V, ps.length = 8 ∧ SqT K H aS ps) (G_stepped : Cal P w K mg base 1 "stepped" ["corner", "direction", "many"] (spStepped K)) :
    FnOk P w K mg base CX0 2 f fd ["one", "other"] (spStraight K) := by
  refine F.ok scSt (fun vs H Q E h => ?_) (fun cdv A outer s H vs Q E hr h => ?_)
  · obtain ⟨b, b', c, c', x, y, x', y', rfl, _⟩ := h
    rfl
  obtain ⟨b, b', c, c', x, y, x', y', rfl, h1, h2, q⟩ := h
  have sc := @scSt
  have hu := hu_of hr
  refine ⟨_, (pss_cons (ps_set (i := 2) sc.nd rfl (Or.inl rfl) (pe_callB (call_max2 rfl) (by rfl) T.max (by decide +kernel) (pa_cons (pe_callB call_abs (by rfl) T.abs (by decide +kernel) (pa_cons (pe_op op_sub (pe_ix ix_G (pv 1) pe_int (fun _ _ => rfl)) (pe_ix ix_G (pv 0) pe_int (fun _ _ => rfl))) pa_nil)) (pa_cons (pe_callB call_abs (by rfl) T.abs (by decide +kernel) (pa_cons (pe_op op_sub (pe_ix ix_G (pv 1) pe_int (fun _ _ => rfl)) (pe_ix ix_G (pv 0) pe_int (fun _ _ => rfl))) pa_nil)) pa_nil))))
    (pss_cons (ps_if (pt_cmpR op_eq (pv 2) pe_int (nomark _)) (pss_one (ps_ret pe_non)) pss_nil)
    (pss_cons (ps_for PassesOwn.never rfl (pi_range1 (by rfl) T.range (pa_cons (pe_callB call_lenA (by rfl) T.len (by decide +kernel) (pa_cons (pe_glob (v := .ref aS) (by rfl) S.m rfl) pa_nil)) pa_nil)) (pg_name (i := 3) sc.nd rfl (Or.inl rfl)) (pss_one (ps_if (pt_cmpR op_eqD (pe_def G_stepped hr (by rfl) (pa_cons (pv 0) (pa_cons (pv 3) (pa_cons (pv 2) pa_nil)))) (pe_callTy call_tupleG (by rfl) T.tuple (by decide +kernel) (pa_cons (pv 1) pa_nil)) (nomark _)) (pss_one (ps_ret (pe_tupA (pa_cons (pv 3) (pa_cons (pv 2) pa_nil))))) pss_nil)))
    (pss_one (ps_ret pe_non))))), ?_⟩
  refine ⟨_, rfl, b', c', _, _, _, rfl, rfl, h2, atI_nat (j := 0) rfl, _, rfl, b, c, _, _, _, rfl, rfl, h1, atI_nat (j := 0) rfl, _, _, rfl, rfl, _, rfl, ?_⟩
  refine ⟨_, rfl, b', c', _, _, _, rfl, rfl, h2, atI_nat (j := 1) rfl, _, rfl, b, c, _, _, _, rfl, rfl, h1, atI_nat (j := 1) rfl, _, _, rfl, rfl, _, rfl, _, _, rfl, ?_⟩
  -- if many == 0
  refine ⟨_, rfl, rfl, _, rfl, iteB (fun hz => ?_) (fun hz => ?_)⟩
  · have hz' : ma (x' - x) (y' - y) = 0 := by
      have := of_decide_eq_true hz
      injection this
    exact q none .non H (fun j _ k => by have := k.1; omega) .rfl' (by rw [dirD, Has])
  have hz' : ¬ ma (x' - x) (y' - y) = 0 := fun z => by
    have : decide (V.int (ma (x' - x) (y' - y)) = V.int 0) = true := by rw [z]; rfl
    have hz2 : decide (V.int (ma (x' - x) (y' - y)) = V.int 0) = false := hz
    rw [this] at hz2
    cases hz2
  have hm : 0 < ma (x' - x) (y' - y) := by have := ma_nonneg (x' - x) (y' - y); omega
  obtain ⟨ps, hl, hps⟩ := hS8 H
  refine ⟨true, aS, ps, rfl, hps, (ps.length : Int), rfl, by rw [hl]; decide, by rw [hl]; decide, ?_⟩
  rw [hl]
  refine for_range (lo := 0) (n := 8) (fun i σ H3 => ∃ (v3 : Option V), σ = [some (.ref c), some (.ref c'), some (.int (ma (x' - x) (y' - y))), v3] ∧ Same H H3 ∧ ∀ j, j < i → ¬ Hit (x' - x) (y' - y) j) ⟨none, rfl, .rfl', fun j hj => absurd hj (Nat.not_lt_zero _)⟩ ?_ ?_
  · rintro i σ H3 hi ⟨v3, rfl, g3, no⟩
    refine ⟨_, rfl, _, rfl, _, rfl, b, c, x, y, 0 + (i : Int), ma (x' - x) (y' - y), rfl, SqG.same g3 h1, by omega, by omega, fun p4 H4 hp4 g4 e4 => ?_⟩
    refine ⟨_, rfl, b', c', _, rfl, SqG.same (g3.trans' g4) h2, fun p5 H5 g5 s5 => ?_⟩
    have ei : (0 + (i : Int)).toNat = i := by omega
    rw [ei] at e4
    refine ⟨.tup (di [x + dx i * ma (x' - x) (y' - y), y + dy i * ma (x' - x) (y' - y)]), .tup (di [x', y']), has_tupI (ns := [_, _]) (SqT.of (g5 _ _ e4)), has_tupI (ns := [_, _]) s5, ?_, _, rfl, ?_⟩
    · rw [dpt, dptL_ints]
      exact hu
    have ev : eqD (.tup (di [x + dx i * ma (x' - x) (y' - y), y + dy i * ma (x' - x) (y' - y)])) (.tup (di [x', y'])) = decide ([x + dx i * ma (x' - x) (y' - y), y + dy i * ma (x' - x) (y' - y)] = [x', y']) := by rw [eqD, eqL_ints]
    refine iteB (fun hy => ?_) (fun hy => ?_)
    · have hy2 := of_decide_eq_true (ev.symm.trans hy)
      injection hy2 with k1 k2
      injection k2 with k2 _
      refine ⟨_, rfl, _, rfl, (by show 2 ≤ sizeLine; decide), fun p6 H6 hp6 g6 e6 => ?_⟩
      refine q (some i) _ H6 ⟨hi, hm, ?_, ?_⟩ (g3.trans' (g4.trans' (g5.trans' g6))) ?_
      · rw [Int.mul_comm]; omega
      · rw [Int.mul_comm]; omega
      · refine has_tupI (ns := [(i : Int), ma (x' - x) (y' - y)]) (SqT.of ?_)
        rw [show (0 + (i : Int)) = (i : Int) by omega] at e6
        exact e6
    · refine ⟨_, rfl, g3.trans' (g4.trans' g5), fun j hj k => ?_⟩
      by_cases e : j = i
      · subst e
        obtain ⟨_, k1, k2⟩ := k
        have : decide ([x + dx j * ma (x' - x) (y' - y), y + dy j * ma (x' - x) (y' - y)] = [x', y']) = true := by
          rw [Int.mul_comm (dx j), Int.mul_comm (dy j), ← k1, ← k2]
          exact decide_eq_true (by rw [show x + (x' - x) = x' by omega, show y + (y' - y) = y' by omega])
        rw [← ev] at this
        have hy2 : eqD (.tup (di [x + dx j * ma (x' - x) (y' - y), y + dy j * ma (x' - x) (y' - y)])) (.tup (di [x', y'])) = false := hy
        rw [this] at hy2
        cases hy2
      · exact no j (by omega) k
  · rintro σ H3 ⟨v3, rfl, g3, no⟩
    exact q none .non H3 no g3 (by rw [dirD, Has])
end
end Mp
namespace Mp
open PySem L2
/-! ### drawn corners -/
theorem StAt.t {H H' : Hp} {st c : Addr} {cs : List Int} {t : Int} (S : StAt H st c cs t) (k : Kp st c H H') : TSame H H' := fun b o e ht => by
  refine k b o e (fun z => ?_) (fun z => ?_)
  · subst z
    rw [S.d] at e
    cases e
    cases ht
  · subst z
    rw [S.l] at e
    cases e
    cases ht
theorem Kp.none {H H' : Hp} {st c p : Addr} {cs : List Int} {t : Int} (k : Kp st c H H') (S : StAt H' st c cs t) (h : H' p = none) : H p = none := by
  cases e : H p with
  | none => rfl
  | some o =>
    have n1 : p ≠ st := fun z => by rw [z, S.d] at h; cases h
    have n2 : p ≠ c := fun z => by rw [z, S.l] at h; cases h
    rw [k p o e n1 n2] at h
    cases h
def ptD (p : Int × Int) : Dt := .tup (di [p.1, p.2])
theorem ptD_t (p : Int × Int) : tupO (ptD p) = true := tupO_ints _
theorem pts_t (ps : List (Int × Int)) : tupOL (ps.map ptD) = true := tupOL_of fun d hd => by
  obtain ⟨p, _, rfl⟩ := List.mem_map.mp hd
  exact ptD_t p
theorem ptD_at {K : PySem.W.Frag} {H : Hp} {ps : List (Int × Int)} {xs : List V} (h : HasL K H (ps.map ptD) xs) {i : Nat} {v : V} (hv : xs[i]? = some v) : ∃ a, v = .ref a ∧ SqT K H a [.int (ps.getD i (0, 0)).1, .int (ps.getD i (0, 0)).2] := by
  have hl := h.len
  have hi : i < ps.length := by
    have := (List.getElem?_eq_some_iff.mp hv).1
    rw [List.length_map] at hl
    omega
  have e : ps.getD i (0, 0) = ps[i] := by simp [List.getD_eq_getElem?_getD, hi]
  have g : Has K H (ptD ps[i]) v := h.get (by rw [List.getElem?_map, List.getElem?_eq_getElem hi]; rfl) hv
  rw [ptD, Has] at g
  obtain ⟨a, ys, rfl, hs, hy⟩ := g
  have ey := ints_hasL (ns := [ps[i].1, ps[i].2]) hy
  subst ey
  rw [e]
  exact ⟨a, rfl, hs⟩
theorem has_pt {K : PySem.W.Frag} {H : Hp} {a : Addr} {x y : Int} (h : SqT K H a [.int x, .int y]) : Has K H (ptD (x, y)) (.ref a) := has_tupI (ns := [x, y]) h
theorem room_deep {k : Nat} {A : Around} (r : Room k A) {n : Nat} (h : n < 200) : A.units + n < cLine := by
  have := r.un
  omega
end Mp
namespace Mp
open PySem L2
structure PtsG (K : PySem.W.Frag) (H : Hp) (rs : List (Int × Int)) (xs : List V) : Prop where
  len : xs.length = rs.length
  it : ∀ i v, xs[i]? = some v → ∃ b a, v = .ref a ∧ SqG b K H a [.int (rs.getD i (0, 0)).1, .int (rs.getD i (0, 0)).2]
theorem PtsG.same {K : PySem.W.Frag} {H H' : Hp} {rs : List (Int × Int)} {xs : List V} (h : PtsG K H rs xs) (g : Same H H') : PtsG K H' rs xs := ⟨h.len, fun i v e => by
  obtain ⟨b, a, ev, s⟩ := h.it i v e
  exact ⟨b, a, ev, SqG.same g s⟩⟩
theorem ptsG_of {K : PySem.W.Frag} {H : Hp} {rs : List (Int × Int)} {xs : List V} (h : HasL K H (rs.map ptD) xs) : PtsG K H rs xs := by
  have hl := h.len
  rw [List.length_map] at hl
  refine ⟨hl.symm, fun i v hv => ?_⟩
  obtain ⟨a, e, hs⟩ := ptD_at h hv
  exact ⟨true, a, e, hs⟩
theorem PtsG.get {K : PySem.W.Frag} {H : Hp} {rs : List (Int × Int)} {xs : List V} (h : PtsG K H rs xs) {k : Nat} (hk : k < rs.length) : ∃ v b a, atI xs (k : Int) = some v ∧ v = .ref a ∧ SqG b K H a [.int (rs.getD k (0, 0)).1, .int (rs.getD k (0, 0)).2] := by
  have hx : k < xs.length := by rw [h.len]; exact hk
  obtain ⟨b, a, e, s⟩ := h.it k _ (List.getElem?_eq_getElem hx)
  exact ⟨_, b, a, atI_nat (List.getElem?_eq_getElem hx), e, s⟩
end Mp
namespace Mp
open PySem L2
/-! ### the grain -/
def tab8 (k : Nat) : Int := [1, 1, 0, -1, -1, -1, 0, 1].getD k 0
def sideN (d : Nat) (g : Int) : Int := tab8 (((d : Int) - g) % 8).toNat
theorem tab8_of : ∀ k : Fin 8, (if (if 8 - (k.val : Int) < (k.val : Int) then 8 - (k.val : Int) else (k.val : Int)) = 2 then (0 : Int) else if (if 8 - (k.val : Int) < (k.val : Int) then 8 - (k.val : Int) else (k.val : Int)) < 2 then 1 else -1) = tab8 k.val := by decide
theorem sideN_in (d : Nat) (g : Int) : sideN d g = 1 ∨ sideN d g = 0 ∨ sideN d g = -1 := by
  unfold sideN
  have h0 : 0 ≤ ((d : Int) - g) % 8 := Int.emod_nonneg _ (by decide)
  have h8 : ((d : Int) - g) % 8 < 8 := Int.emod_lt_of_pos _ (by decide)
  generalize ((d : Int) - g) % 8 = e at *
  have : e = 0 ∨ e = 1 ∨ e = 2 ∨ e = 3 ∨ e = 4 ∨ e = 5 ∨ e = 6 ∨ e = 7 := by omega
  rcases this with rfl | rfl | rfl | rfl | rfl | rfl | rfl | rfl <;> decide
/-- a run: its corners and the directions of its steps -/
structure Road (rs : List (Int × Int)) (ds : List Nat) : Prop where
  len : rs.length = ds.length + 1
  d8 : ∀ i, i < ds.length → ds.getD i 0 < 8
  go : ∀ i, i < ds.length → rs.getD (i + 1) (0, 0) = ((rs.getD i (0, 0)).1 + dx (ds.getD i 0), (rs.getD i (0, 0)).2 + dy (ds.getD i 0))
def sidesN (ds : List Nat) (g : Int) : List Int := ds.map fun d => sideN d g
theorem sidesN_at {ds : List Nat} {g : Int} {i : Nat} (h : i < ds.length) : (sidesN ds g).getD i 0 = sideN (ds.getD i 0) g := by
  unfold sidesN
  rw [List.getD_eq_getElem?_getD, List.getElem?_map, List.getD_eq_getElem?_getD, List.getElem?_eq_getElem h]
  rfl
theorem hit_unit : ∀ d : Fin 8, Hit (dx d.val) (dy d.val) d.val := by
  intro d
  unfold Hit ma ab
  revert d
  decide
theorem ma_unit : ∀ d : Fin 8, ma (dx d.val) (dy d.val) = 1 := by
  unfold ma ab
  decide
theorem dir_unit {d : Nat} (hd : d < 8) {o : Option Nat} (h : IsDir (dx d) (dy d) o) : o = some d := isDir_one h ⟨hd, hit_unit ⟨d, hd⟩⟩
def seg (rs : List (Int × Int)) (b n : Nat) : List (Int × Int) := (rs.drop b).take (n + 1 - b)
def tpc (rs : List (Int × Int)) (b n : Nat) (lie : Int) : List (Int × Int) := if lie = -1 then (seg rs b n).reverse else seg rs b n
structure GS where
  done : List (List (Int × Int))
  b : Nat
  lie : Int
def gst (rs : List (Int × Int)) (ss : List Int) : Nat → GS
  | 0 => ⟨[], 0, 0⟩
  | n + 1 => if ss.getD n 0 ≠ 0 ∧ (gst rs ss n).lie ≠ 0 ∧ ss.getD n 0 ≠ (gst rs ss n).lie then ⟨(gst rs ss n).done ++ [tpc rs (gst rs ss n).b n (gst rs ss n).lie], n, ss.getD n 0⟩
    else ⟨(gst rs ss n).done, (gst rs ss n).b, if ss.getD n 0 = 0 then (gst rs ss n).lie else ss.getD n 0⟩
def piecesF (rs : List (Int × Int)) (ss : List Int) : List (List (Int × Int)) := (gst rs ss ss.length).done ++ [tpc rs (gst rs ss ss.length).b ss.length (gst rs ss ss.length).lie]
theorem gst_b {rs : List (Int × Int)} {ss : List Int} : ∀ n, (gst rs ss n).b ≤ n ∧ (gst rs ss n).done.length ≤ n
  | 0 => ⟨Nat.le_refl _, Nat.le_refl _⟩
  | n + 1 => by
    have := gst_b (rs := rs) (ss := ss) n
    rw [gst]
    split
    · show n ≤ n + 1 ∧ ((gst rs ss n).done ++ [_]).length ≤ n + 1
      rw [List.length_append]
      show _ ∧ _ + 1 ≤ _
      omega
    · show (gst rs ss n).b ≤ n + 1 ∧ (gst rs ss n).done.length ≤ n + 1
      omega
theorem seg_succ {rs : List (Int × Int)} {b n : Nat} (hb : b ≤ n) (hn : n + 1 < rs.length) : seg rs b (n + 1) = seg rs b n ++ [rs.getD (n + 1) (0, 0)] := by
  unfold seg
  rw [show n + 1 + 1 - b = (n + 1 - b) + 1 by omega, List.take_add_one, List.getElem?_drop, show b + (n + 1 - b) = n + 1 by omega, List.getElem?_eq_getElem hn, List.getD_eq_getElem?_getD, List.getElem?_eq_getElem hn]
  rfl
theorem seg_one {rs : List (Int × Int)} {n : Nat} (hn : n < rs.length) : seg rs n n = [rs.getD n (0, 0)] := by
  unfold seg
  rw [show n + 1 - n = 0 + 1 by omega, List.take_add_one, List.getElem?_drop, Nat.add_zero, List.getElem?_eq_getElem hn, List.getD_eq_getElem?_getD, List.getElem?_eq_getElem hn]
  rfl
theorem seg_last {rs : List (Int × Int)} {b n : Nat} (hb : b ≤ n) (hn : n < rs.length) : ∃ pre, seg rs b n = pre ++ [rs.getD n (0, 0)] := by
  cases n with
  | zero =>
    have : b = 0 := by omega
    subst this
    exact ⟨[], seg_one hn⟩
  | succ n =>
    by_cases h : b ≤ n
    · exact ⟨_, seg_succ h hn⟩
    · have : b = n + 1 := by omega
      subst this
      exact ⟨[], seg_one hn⟩
theorem seg_len {rs : List (Int × Int)} {b n : Nat} : (seg rs b n).length ≤ n + 1 := by
  unfold seg
  rw [List.length_take]
  omega
/-- lists of corners, each of its own, made since H -/
structure Rows2 (K : PySem.W.Frag) (H L : Hp) (ps : List (List (Int × Int))) (acc : List V) (no : Addr → Prop) : Prop where
  len : acc.length = ps.length
  it : ∀ (j : Nat) (v : V) (s : List (Int × Int)), acc[j]? = some v → ps[j]? = some s → ∃ q xs, v = .ref q ∧ ¬ no q ∧ H q = none ∧ L q = some (.lst xs) ∧ HasL K L (s.map ptD) xs
def psD (ps : List (List (Int × Int))) : Dt := .lst (ps.map fun s => .lst (s.map ptD))
theorem rows2_has {K : PySem.W.Frag} {L : Hp} : ∀ {ps : List (List (Int × Int))} {acc : List V}, acc.length = ps.length → (∀ (j : Nat) (v : V) (s : List (Int × Int)), acc[j]? = some v → ps[j]? = some s → ∃ q xs, v = .ref q ∧ L q = some (.lst xs) ∧ HasL K L (s.map ptD) xs) → HasL K L (ps.map fun s => .lst (s.map ptD)) acc
  | [], [], _, _ => hasL_nil
  | [], _ :: _, h, _ => by cases h
  | _ :: _, [], h, _ => by cases h
  | s :: ps, v :: acc, h, f => by
    refine hasL_cons ?_ (rows2_has (Nat.succ.inj h) fun j v s a b => f (j + 1) v s a b)
    obtain ⟨q, xs, rfl, e, hl⟩ := f 0 v s rfl rfl
    rw [Has]
    exact ⟨q, xs, rfl, SqL.of e, hl⟩
theorem Rows2.has {K : PySem.W.Frag} {H L : Hp} {ps : List (List (Int × Int))} {acc : List V} {no : Addr → Prop} {p : Addr} (r : Rows2 K H L ps acc no) (e : L p = some (.lst acc)) : Has K L (psD ps) (.ref p) := by
  rw [psD, Has]
  refine ⟨p, acc, rfl, SqL.of e, rows2_has r.len fun j v s a b => ?_⟩
  obtain ⟨q, xs, e1, _, _, e2, h⟩ := r.it j v s a b
  exact ⟨q, xs, e1, e2, h⟩
theorem Rows2.same {K : PySem.W.Frag} {H L L' : Hp} {ps : List (List (Int × Int))} {acc : List V} {no : Addr → Prop} (r : Rows2 K H L ps acc no) (g : Same L L') : Rows2 K H L' ps acc no := ⟨r.len, fun j v s a b => by
  obtain ⟨q, xs, e1, n, h0, e2, h⟩ := r.it j v s a b
  exact ⟨q, xs, e1, n, h0, g _ _ e2, HasL.same g h⟩⟩
/-- what is put elsewhere -/
theorem Rows2.put {K : PySem.W.Frag} {H L L' : Hp} {ps : List (List (Int × Int))} {acc : List V} {no : Addr → Prop} {p : Addr} {o o' : HO} (r : Rows2 K H L ps acc no) (hp : no p) (u : Put L p o L') (e : L p = some o') (ht : isT o' = false) : Rows2 K H L' ps acc no := ⟨r.len, fun j v s a b => by
  obtain ⟨q, xs, e1, n, h0, e2, h⟩ := r.it j v s a b
  exact ⟨q, xs, e1, n, h0, u.keep e2 (fun z => n (by rw [z]; exact hp)), HasL.tsame (u.t e ht) (pts_t _) h⟩⟩
theorem Rows2.snoc {K : PySem.W.Frag} {H L : Hp} {ps : List (List (Int × Int))} {acc : List V} {no : Addr → Prop} {q : Addr} {xs : List V} {s : List (Int × Int)} (r : Rows2 K H L ps acc no) (n : ¬ no q) (h0 : H q = none) (e : L q = some (.lst xs)) (h : HasL K L (s.map ptD) xs) : Rows2 K H L (ps ++ [s]) (acc ++ [.ref q]) no := by
  refine ⟨by rw [List.length_append, List.length_append, r.len]; rfl, fun j v s' a b => ?_⟩
  by_cases hj : j < acc.length
  · rw [List.getElem?_append_left hj] at a
    rw [List.getElem?_append_left (by rw [← r.len]; exact hj)] at b
    exact r.it j v s' a b
  · rw [List.getElem?_append_right (by omega)] at a
    rw [List.getElem?_append_right (by rw [← r.len]; omega), ← r.len] at b
    have z : j - acc.length = 0 := by
      have := (List.getElem?_eq_some_iff.mp a).1
      simp at this
      omega
    rw [z] at a b
    cases a
    cases b
    exact ⟨q, xs, rfl, n, h0, e, h⟩
theorem Rows2.no {K : PySem.W.Frag} {H L : Hp} {ps : List (List (Int × Int))} {acc : List V} {no no' : Addr → Prop} (r : Rows2 K H L ps acc no) (h : ∀ q, no' q → no q) : Rows2 K H L ps acc no' := ⟨r.len, fun j v s a b => by
  obtain ⟨q, xs, e1, n, h0, e2, hl⟩ := r.it j v s a b
  exact ⟨q, xs, e1, fun z => n (h q z), h0, e2, hl⟩⟩
def spLie (K : PySem.W.Frag) : Sp := fun vs H Q _ => ∃ (b b' : Bool) (c c' : Addr) (x y g : Int) (d : Nat), vs = [.ref c, .ref c', .int g] ∧ SqG b K H c [.int x, .int y] ∧ SqG b' K H c' [.int (x + dx d), .int (y + dy d)] ∧ d < 8 ∧ ∀ H', Same H H' → Q (.int (sideN d g)) H'
def spTurned (K : PySem.W.Frag) : Sp := fun vs H Q _ => ∃ (c : Addr) (xs : List V) (lie : Int), vs = [.ref c, .int lie] ∧ H c = some (.lst xs) ∧ (lie = -1 → New (.lst xs.reverse) H Q) ∧ (lie ≠ -1 → Q (.ref c) H)
def spGrain (K : PySem.W.Frag) : Sp := fun vs H Q _ => ∃ (b : Bool) (r : Addr) (xs : List V) (rs : List (Int × Int)) (ds : List Nat) (g : Int), vs = [.ref r, .int g] ∧ SqG b K H r xs ∧ PtsG K H rs xs ∧ Road rs ds ∧ rs.length ≤ 2000 ∧
  ∀ (p : Addr) (acc : List V) (H' : Hp), H p = none → Same H H' → H' p = some (.lst acc) → Rows2 K H H' (piecesF rs (sidesN ds g)) acc (fun q => q = p) → Q (.ref p) H'
section
variable {P : Program} {w : World} {K : PySem.W.Frag} {mg : Str → Option Value} {base : Heap}
theorem scLi : FnScope ["one", "other", "grain", "turn"] ["one", "other", "grain"] (defScope s_lie_of_step) := ⟨rfl, rfl, rfl, by decide +kernel, rfl, by decide +kernel, by decide +kernel⟩
theorem ok_lie {f : Addr} {fd : FuncData} {tW tA tG : Tok} (F : Fun K "lie_of_step" "lie_of_step" s_lie_of_step f fd) (T : Txt mg) (g_WITH : mg "WITH" = some (.int 1 tW)) (g_ACROSS : mg "ACROSS" = some (.int 0 tA)) (g_AGAINST : mg "AGAINST" = some (.int (-1) tG)) (G_straight : Cal P w K mg base 2 "straight" ["one", "other"] (spStraight K)) :
    FnOk P w K mg base CX0 3 f fd ["one", "other", "grain"] (spLie K) := by
  refine F.ok scLi (fun vs H Q E h => ?_) (fun cdv A outer s H vs Q E hr h => ?_)
  · obtain ⟨b, b', c, c', x, y, g, d, rfl, _⟩ := h
    rfl
  obtain ⟨b, b', c, c', x, y, g, d, rfl, h1, h2, hd, q⟩ := h
  have sc := @scLi
  refine ⟨_, (@pss_cons _ _ _ _ _ (@ps_set _ _ 3 _ _ _ _ sc.nd rfl (Or.inl rfl) (@pe_op _ _ _ _ _ _ _ _ op_mod (@pe_op _ _ _ _ _ _ _ _ op_sub (@pe_ix _ _ _ _ _ _ _ ix_G (@pe_def _ _ _ _ _ _ _ _ _ _ _ G_straight hr (by rfl) (@pa_cons _ _ _ _ _ (pv 0) (@pa_cons _ _ _ _ _ (pv 1) pa_nil (by rfl)) (by rfl)) (by omega) (by decide) (by rfl) (by rfl)) pe_int (fun _ _ => rfl)) (pv 2)) pe_int) (by rfl) (Or.inl rfl)) (@pss_cons _ _ _ _ _ (@ps_set _ _ 3 _ _ _ _ sc.nd rfl (Or.inl rfl) (@pe_callB _ _ _ _ _ _ _ _ _ (call_min2 rfl) (by rfl) T.min (by decide +kernel) (@pa_cons _ _ _ _ _ (pv 3) (@pa_cons _ _ _ _ _ (@pe_op _ _ _ _ _ _ _ _ op_sub pe_int (pv 3)) pa_nil (by rfl)) (by rfl)) (by decide) (by decide) (by rfl) (by rfl)) (by rfl) (Or.inl rfl)) (@pss_cons _ _ _ _ _ (@ps_if _ _ _ _ _ _ _ _ (@pt_cmpR _ _ _ _ _ _ _ _ op_eq (pv 3) pe_int (nomark _)) (@pss_one _ _ _ (@ps_ret _ _ _ _ (pe_glob (v := .int (0)) (by rfl) g_ACROSS ⟨_, rfl⟩))) pss_nil) (@pss_one _ _ _ (@ps_ret _ _ _ _ (pe_ifExp (@pt_cmpR _ _ _ _ _ _ _ _ op_lt (pv 3) pe_int (nomark _)) (pe_glob (v := .int (1)) (by rfl) g_WITH ⟨_, rfl⟩) (pe_glob (v := .int (-1)) (by rfl) g_AGAINST ⟨_, rfl⟩))))))), ?_⟩
  refine ⟨_, rfl, _, rfl, b, b', c, c', x, y, x + dx d, y + dy d, rfl, h1, h2, fun o v H1 ho g1 hv => ?_⟩
  rw [show x + dx d - x = dx d by omega, show y + dy d - y = dy d by omega] at ho hv
  have eo := dir_unit hd ho
  subst eo
  rw [ma_unit ⟨d, hd⟩, dirD, Has] at hv
  obtain ⟨a, ys, rfl, hs, hy⟩ := hv
  have ey := ints_hasL (ns := [(d : Int), 1]) hy
  subst ey
  refine ⟨true, a, _, _, _, rfl, rfl, hs, atI_nat (j := 0) rfl, _, rfl, _, _, rfl, rfl, _, _, rfl, rfl, (by show (0 : Int) < 8; decide), ?_⟩
  have q := q H1 g1
  unfold sideN at q
  have h0 : 0 ≤ ((d : Int) - g) % 8 := Int.emod_nonneg _ (by decide)
  have h8 : ((d : Int) - g) % 8 < 8 := Int.emod_lt_of_pos _ (by decide)
  obtain ⟨k, ek, hk⟩ : ∃ k : Nat, ((d : Int) - g) % 8 = (k : Int) ∧ k < 8 := ⟨(((d : Int) - g) % 8).toNat, by omega, by omega⟩
  show gName 3 (V.int (((d : Int) - g) % 8)) _ _ _
  rw [ek] at q ⊢
  rw [Int.toNat_natCast, ← tab8_of ⟨k, hk⟩] at q
  refine ⟨_, rfl, _, rfl, _, _, rfl, rfl, _, _, rfl, ?_⟩
  refine ⟨_, rfl, rfl, _, rfl, iteB (fun hb => ?_) (fun hb => ?_)⟩
  · have e : (if 8 - (k : Int) < (k : Int) then 8 - (k : Int) else (k : Int)) = 2 := by simpa using hb
    rw [if_pos e] at q
    exact q
  · have e : ¬ (if 8 - (k : Int) < (k : Int) then 8 - (k : Int) else (k : Int)) = 2 := by simpa using hb
    rw [if_neg e] at q
    refine ⟨_, rfl, _, _, rfl, rfl, _, rfl, iteB (fun hc => ?_) (fun hc => ?_)⟩
    · have e2 : (if 8 - (k : Int) < (k : Int) then 8 - (k : Int) else (k : Int)) < 2 := by simpa using hc
      rw [if_pos e2] at q
      exact q
    · have e2 : ¬ (if 8 - (k : Int) < (k : Int) then 8 - (k : Int) else (k : Int)) < 2 := by simpa using hc
      rw [if_neg e2] at q
      exact q
theorem scTu : FnScope ["piece", "lie"] ["piece", "lie"] (defScope s_turned) := ⟨rfl, rfl, rfl, by decide +kernel, rfl, by decide +kernel, by decide +kernel⟩
theorem ok_turned {f : Addr} {fd : FuncData} {tG : Tok} (F : Fun K "turned" "turned" s_turned f fd) (T : Txt mg) (g_AGAINST : mg "AGAINST" = some (.int (-1) tG)) :
    FnOk P w K mg base CX0 1 f fd ["piece", "lie"] (spTurned K) := by
  refine F.ok scTu (fun vs H Q E h => ?_) (fun cdv A outer s H vs Q E hr h => ?_)
  · obtain ⟨c, xs, lie, rfl, _⟩ := h
    rfl
  obtain ⟨c, xs, lie, rfl, h1, q1, q2⟩ := h
  have sc := @scTu
  refine ⟨_, (@pss_one _ _ _ (@ps_ret _ _ _ _ (pe_ifExp (@pt_cmpR _ _ _ _ _ _ _ _ op_eq (pv 1) (pe_glob (v := .int (-1)) (by rfl) g_AGAINST ⟨_, rfl⟩) (nomark _)) (pe_listrev rfl (by rfl) T.list (by rfl) T.reversed (pv 0)) (pv 0)))), ?_⟩
  refine ⟨_, rfl, rfl, _, rfl, iteB (fun hb => ?_) (fun hb => ?_)⟩
  · have e : lie = -1 := by simpa using hb
    exact ⟨_, rfl, c, xs, rfl, SqL.of h1, q1 e⟩
  · have e : ¬ lie = -1 := by simpa using hb
    exact ⟨_, rfl, q2 e⟩
end
end Mp

namespace Mp
open PySem L2
theorem cut_tail {xs : List V} (h : 0 < xs.length) : cutV xs (some 1) none = xs.drop 1 := by
  have e : HT.sIx xs.length 0 (some 1) = 1 := by
    have := HT.sIx_nat xs.length 0 1
    rw [show (1 : Int) = ((1 : Nat) : Int) from rfl, this]
    omega
  unfold cutV
  rw [e, HT.sIx_none]
  exact List.take_of_length_le (by rw [List.length_drop]; omega)
theorem if_split {c : TT} {t u S2 : TS} {D : Ends} {σ : St} {H : Hp} (R : St → Hp → Prop) (h2 : ∀ σ' H', R σ' H' → S2 D σ' H') (h1 : (∀ σ' H', R σ' H' → S2 D σ' H') → tIfS c t u { D with nx := S2 D } σ H) : tSeq (tIfS c t u) S2 D σ H := h1 h2
theorem SqG.put {b : Bool} {K : PySem.W.Frag} {H H' : Hp} {p a : Addr} {o : HO} {xs : List V} (u : Put H p o H') (n : a ≠ p) (h : SqG b K H a xs) : SqG b K H' a xs := by
  cases b with
  | true =>
    rcases (show SqT K H a xs from h) with (h | ⟨o, h⟩) | h
    · exact (.inl (.inl (u.keep h n)) : SqT K H' a xs)
    · exact (.inl (.inr ⟨o, u.keep h n⟩) : SqT K H' a xs)
    · exact (.inr h : SqT K H' a xs)
  | false =>
    rcases (show SqL K H a xs from h) with (h | ⟨o, h⟩) | h
    · exact (.inl (.inl (u.keep h n)) : SqL K H' a xs)
    · exact (.inl (.inr ⟨o, u.keep h n⟩) : SqL K H' a xs)
    · exact (.inr h : SqL K H' a xs)
theorem SqG.const {b : Bool} {K : PySem.W.Frag} {H : Hp} {a : Addr} {xs : List V} (h : SqG b K H a xs) (n : H a = none) : ∀ H', SqG b K H' a xs := fun H' => by
  cases b with
  | true =>
    rcases (show SqT K H a xs from h) with (h | ⟨o, h⟩) | h
    · rw [n] at h; cases h
    · rw [n] at h; cases h
    · exact (.inr h : SqT K H' a xs)
  | false =>
    rcases (show SqL K H a xs from h) with (h | ⟨o, h⟩) | h
    · rw [n] at h; cases h
    · rw [n] at h; cases h
    · exact (.inr h : SqL K H' a xs)
theorem SqG.putC {b : Bool} {K : PySem.W.Frag} {H H' : Hp} {p a : Addr} {o : HO} {xs : List V} (u : Put H p o H') (n : a = p → ∀ L, SqG b K L a xs) (h : SqG b K H a xs) : SqG b K H' a xs := by
  by_cases z : a = p
  · exact n z H'
  · exact SqG.put u z h
theorem hasL_last {K : PySem.W.Frag} {H : Hp} {pre : List (Int × Int)} {p : Int × Int} {xs : List V} (h : HasL K H ((pre ++ [p]).map ptD) xs) : ∃ a, atI xs (-1) = some (.ref a) ∧ SqT K H a [.int p.1, .int p.2] := by
  have hl := h.len
  rw [List.length_map, List.length_append] at hl
  have hl : xs.length = pre.length + 1 := by rw [← hl]; rfl
  have hx : xs ≠ [] := fun z => by rw [z] at hl; cases hl
  have hi : pre.length < xs.length := by omega
  obtain ⟨a, e, s⟩ := ptD_at h (List.getElem?_eq_getElem hi)
  have eg : (pre ++ [p]).getD pre.length (0, 0) = p := by
    rw [List.getD_eq_getElem?_getD, List.getElem?_append_right (Nat.le_refl _), Nat.sub_self]
    rfl
  rw [eg] at s
  refine ⟨a, ?_, s⟩
  have e2 := List.dropLast_concat_getLast hx
  have e3 : atI xs (-1) = some (xs.getLast hx) := (congrArg (fun l => atI l (-1)) e2.symm).trans (atI_last _ _)
  rw [e3, List.getLast_eq_getElem, ← e]
  congr 1
  congr 1
  omega
section
variable {P : Program} {w : World} {K : PySem.W.Frag} {mg : Str → Option Value} {base : Heap}
theorem scWg : FnScope ["run", "grain", "pieces", "piece", "lie", "corner", "step"] ["run", "grain"] (defScope s_with_grain) := ⟨rfl, rfl, rfl, by decide +kernel, rfl, by decide +kernel, by decide +kernel⟩
set_option maxHeartbeats 2000000 in
theorem ok_grain {f : Addr} {fd : FuncData} {tA : Tok} (F : Fun K "with_grain" "with_grain" s_with_grain f fd) (T : Txt mg) (g_ACROSS : mg "ACROSS" = some (.int 0 tA)) (G_lie_of_step : Cal P w K mg base 3 "lie_of_step" ["one", "other", "grain"] (spLie K)) (G_turned : Cal P w K mg base 1 "turned" ["piece", "lie"] (spTurned K)) :
    FnOk P w K mg base CX0 4 f fd ["run", "grain"] (spGrain K) := by
  refine F.ok scWg (fun vs H Q E h => ?_) (fun cdv A outer s H vs Q E hr h => ?_)
  · obtain ⟨b, r, xs, rs, ds, g, rfl, _⟩ := h
    rfl
  obtain ⟨b, r, xs, rs, ds, g, rfl, hs, hp, hR, hlen, q⟩ := h
  have sc := @scWg
  have hpos : 0 < rs.length := by have := hR.len; omega
  have hxl : xs.length = rs.length := hp.len
  obtain ⟨ss, ess⟩ : ∃ ss, ss = sidesN ds g := ⟨_, rfl⟩
  have hss : ss.length = ds.length := by rw [ess, sidesN, List.length_map]
  have ssat : ∀ i, i < ds.length → ss.getD i 0 = sideN (ds.getD i 0) g := fun i hi => by rw [ess]; exact sidesN_at hi
  rw [← ess] at q
  refine ⟨_, (@pss_cons _ _ _ _ _ (@ps_set _ _ 2 _ _ _ _ sc.nd rfl (Or.inl rfl) (@pe_lstA _ _ _ _ pa_nil) (by rfl) (Or.inl rfl)) (@pss_cons _ _ _ _ _ (@ps_set _ _ 3 _ _ _ _ sc.nd rfl (Or.inl rfl) (@pe_lstA _ _ _ _ (@pa_cons _ _ _ _ _ (@pe_callTy _ _ _ _ _ _ _ _ _ call_tupleG (by rfl) T.tuple (by decide +kernel) (@pa_cons _ _ _ _ _ (@pe_ix _ _ _ _ _ _ _ ix_G (pv 0) pe_int (fun _ _ => rfl)) pa_nil (by rfl)) (by decide) (by decide) (by rfl) (by rfl)) pa_nil (by rfl))) (by rfl) (Or.inl rfl)) (@pss_cons _ _ _ _ _ (@ps_set _ _ 4 _ _ _ _ sc.nd rfl (Or.inl rfl) (pe_glob (v := .int (0)) (by rfl) g_ACROSS ⟨_, rfl⟩) (by rfl) (Or.inl rfl)) (@pss_cons _ _ _ _ _ (@ps_for _ _ _ _ _ _ _ _ PassesOwn.never rfl (@pi_seq _ _ _ _ (@pe_slice _ _ _ _ _ _ _ _ _ _ sl_G (pv 0) (po_some pe_int) po_none)) (pg_name (i := 5) sc.nd rfl (Or.inl rfl)) (@pss_cons _ _ _ _ _ (@ps_set _ _ 6 _ _ _ _ sc.nd rfl (Or.inl rfl) (@pe_def _ _ _ _ _ _ _ _ _ _ _ G_lie_of_step hr (by rfl) (@pa_cons _ _ _ _ _ (@pe_ix _ _ _ _ _ _ _ ix_list (pv 3) (@pe_un _ _ _ _ _ _ un_neg pe_int) (fun _ _ => rfl)) (@pa_cons _ _ _ _ _ (pv 5) (@pa_cons _ _ _ _ _ (pv 1) pa_nil (by rfl)) (by rfl)) (by rfl)) (by omega) (by decide) (by rfl) (by rfl)) (by rfl) (Or.inl rfl)) (@pss_cons _ _ _ _ _ (@ps_if _ _ _ _ _ _ _ _ (PW.pt (pw_and (@pt_cmpR _ _ _ _ _ _ _ _ op_ne (pv 6) (pe_glob (v := .int (0)) (by rfl) g_ACROSS ⟨_, rfl⟩) (nomark _)) (pw_and (@pt_cmpR _ _ _ _ _ _ _ _ op_ne (pv 4) (pe_glob (v := .int (0)) (by rfl) g_ACROSS ⟨_, rfl⟩) (nomark _)) (pw_and1 (@pt_cmpR _ _ _ _ _ _ _ _ op_ne (pv 6) (pv 4) (nomark _)))))) (@pss_cons _ _ _ _ _ (ps_expr (pe_bm PySem.F.plainAttrs_list PySem.F.slot_list_append PySem.F.type_list_append mt_appendA (pv 2) (@pa_cons _ _ _ _ _ (@pe_def _ _ _ _ _ _ _ _ _ _ _ G_turned hr (by rfl) (@pa_cons _ _ _ _ _ (pv 3) (@pa_cons _ _ _ _ _ (pv 4) pa_nil (by rfl)) (by rfl)) (by omega) (by decide) (by rfl) (by rfl)) pa_nil (by rfl)))) (@pss_one _ _ _ (@ps_set _ _ 3 _ _ _ _ sc.nd rfl (Or.inl rfl) (@pe_lstA _ _ _ _ (@pa_cons _ _ _ _ _ (@pe_ix _ _ _ _ _ _ _ ix_list (pv 3) (@pe_un _ _ _ _ _ _ un_neg pe_int) (fun _ _ => rfl)) pa_nil (by rfl))) (by rfl) (Or.inl rfl)))) pss_nil) (@pss_cons _ _ _ _ _ (ps_expr (pe_bm PySem.F.plainAttrs_list PySem.F.slot_list_append PySem.F.type_list_append mt_appendA (pv 3) (@pa_cons _ _ _ _ _ (@pe_callTy _ _ _ _ _ _ _ _ _ call_tupleG (by rfl) T.tuple (by decide +kernel) (@pa_cons _ _ _ _ _ (pv 5) pa_nil (by rfl)) (by decide) (by decide) (by rfl) (by rfl)) pa_nil (by rfl)))) (@pss_one _ _ _ (@ps_set _ _ 4 _ _ _ _ sc.nd rfl (Or.inl rfl) (pe_ifExp (@pt_cmpR _ _ _ _ _ _ _ _ op_eq (pv 6) (pe_glob (v := .int (0)) (by rfl) g_ACROSS ⟨_, rfl⟩) (nomark _)) (pv 4) (pv 6)) (by rfl) (Or.inl rfl)))))) (by intro _; rfl)) (@pss_cons _ _ _ _ _ (ps_expr (pe_bm PySem.F.plainAttrs_list PySem.F.slot_list_append PySem.F.type_list_append mt_appendA (pv 2) (@pa_cons _ _ _ _ _ (@pe_def _ _ _ _ _ _ _ _ _ _ _ G_turned hr (by rfl) (@pa_cons _ _ _ _ _ (pv 3) (@pa_cons _ _ _ _ _ (pv 4) pa_nil (by rfl)) (by rfl)) (by omega) (by decide) (by rfl) (by rfl)) pa_nil (by rfl)))) (@pss_one _ _ _ (@ps_ret _ _ _ _ (pv 2)))))))), ?_⟩
  refine ⟨(by show 0 ≤ sizeLine; decide), fun pp H1 hpp g1 e1 => ?_⟩
  obtain ⟨v0, b0, a0, hat0, rfl, hsq0⟩ := (hp.same g1).get hpos
  refine ⟨_, rfl, b, r, _, _, _, rfl, rfl, SqG.same g1 hs, hat0, b0, a0, _, rfl, hsq0, fun c0 H2 g2 s2 => ?_⟩
  refine ⟨(by show 1 ≤ sizeLine; decide), fun pc H3 hpc g3 e3 => ?_⟩
  have g13 := g1.trans' (g2.trans' g3)
  have hpcH : H pc = none := (g1.trans' g2).none hpc
  have npc : pc ≠ pp := fun z => by rw [z, g2 _ _ e1] at hpc; cases hpc
  refine ⟨_, rfl, _, rfl, b, r, xs, rfl, SqG.same g13 hs, fun _ => ?_, fun ps H4 hps g4 s4 => ?_⟩
  · intro z
    have e := HT.sIx_nat xs.length 0 1
    have z1 : HT.sIx xs.length 0 (some ((1 : Nat) : Int)) = 0 := z.1
    rw [e] at z1
    omega
  rw [cut_tail (by omega)] at s4
  have g14 := g13.trans' g4
  refine ⟨b, ps, _, rfl, s4, for_sq (K := K) (b := b) (a := ps) (xs := xs.drop 1) (fun i σ L => ∃ (v5 v6 : Option V) (pc : Addr) (acc cs : List V), σ = [some (.ref r), some (.int g), some (.ref pp), some (.ref pc), some (.int (gst rs ss i).lie), v5, v6] ∧ Same H L ∧ SqG b K L ps (xs.drop 1) ∧ L pp = some (.lst acc) ∧ Rows2 K H L (gst rs ss i).done acc (fun q => q = pp ∨ q = pc) ∧ H pc = none ∧ pc ≠ pp ∧ L pc = some (.lst cs) ∧ HasL K L ((seg rs (gst rs ss i).b i).map ptD) cs ∧ (ps = pc → ∀ L', SqG b K L' ps (xs.drop 1)) ∧ ps ≠ pp)
    ⟨none, none, pc, [], _, rfl, g14, s4, (g2.trans' (g3.trans' g4)) _ _ e1, ⟨rfl, fun j v s a => by simp at a⟩, hpcH, npc, g4 _ _ e3, ?_, fun z => absurd z (ne_of_none e3 hps).symm, (ne_of_none ((g2.trans' g3) _ _ e1) hps).symm⟩ (fun i σ L _ ⟨_, _, _, _, _, _, _, z, _⟩ => z) ?_ ?_⟩
  · show HasL K H4 ((seg rs 0 0).map ptD) _
    rw [seg_one hpos]
    exact hasL_cons (has_pt (SqT.same (g3.trans' g4) s2)) hasL_nil
  · rintro i v σ L hv ⟨v5, v6, pc, acc, cs, rfl, gL, sL, epp, rw2, hpcH, npc, epc, lpc, nps, npp⟩
    rw [List.getElem?_drop, Nat.add_comm] at hv
    have hi1 : i + 1 < rs.length := by have := (List.getElem?_eq_some_iff.mp hv).1; omega
    have hids : i < ds.length := by have := hR.len; omega
    obtain ⟨bc, cc, rfl, hccH⟩ := hp.it (i + 1) v hv
    have hcc := SqG.same gL hccH
    have gb := (gst_b (rs := rs) (ss := ss) i)
    obtain ⟨pre, epre⟩ := seg_last (rs := rs) gb.1 (by omega)
    rw [epre] at lpc
    obtain ⟨al, atl, sl⟩ := hasL_last lpc
    have hgo := hR.go i hids
    have hcc' := hcc
    rw [hgo] at hcc'
    -- step
    refine ⟨_, rfl, _, rfl, pc, _, _, _, rfl, rfl, SqL.of epc, atl, _, rfl, _, rfl, true, bc, al, cc, _, _, g, ds.getD i 0, rfl, sl, hcc', hR.d8 i hids, fun L1 k1 => ?_⟩
    rw [← ssat i hids]
    have zcs : cs.length ≤ i + 1 := by
      rw [← lpc.len, List.length_map, ← epre]
      exact seg_len
    have zacc : acc.length ≤ i := by rw [rw2.len]; exact gb.2
    rw [← epre] at lpc
    have gL1 := gL.trans' k1
    have epp1 := k1 _ _ epp
    have epc1 := k1 _ _ epc
    have lpc1 := HasL.same k1 lpc
    have rw1 := rw2.same k1
    have sl1 := SqT.same k1 sl
    have sL1 := SqG.same k1 sL
    have hsn : ss.getD i 0 = 1 ∨ ss.getD i 0 = 0 ∨ ss.getD i 0 = -1 := by rw [ssat i hids]; exact sideN_in _ _
    clear gL epp epc lpc rw2 sl hcc hcc' sL k1
    generalize ex : ss.getD i 0 = x at *
    dsimp only [gName]
    refine if_split (fun σ' L' => ∃ (pc' : Addr) (acc' cs' : List V) (b' : Nat), σ' = [some (.ref r), some (.int g), some (.ref pp), some (.ref pc'), some (.int (gst rs ss i).lie), some (.ref cc), some (.int x)] ∧ Same H L' ∧ SqG b K L' ps (xs.drop 1) ∧ L' pp = some (.lst acc') ∧ Rows2 K H L' (gst rs ss (i + 1)).done acc' (fun q => q = pp ∨ q = pc') ∧ H pc' = none ∧ pc' ≠ pp ∧ L' pc' = some (.lst cs') ∧ HasL K L' ((seg rs b' i).map ptD) cs' ∧ b' = (gst rs ss (i + 1)).b ∧ b' ≤ i ∧ cs'.length ≤ i + 1 ∧ (ps = pc' → ∀ M, SqG b K M ps (xs.drop 1))) ?_ ?_
    · rintro σ' L' ⟨pc', acc', cs', b', rfl, gL', sL', epp', rw', hpcH', npc', epc', lpc', eb', hb', zcs', nps'⟩
      have hcc' := SqG.same gL' hccH
      refine ⟨_, rfl, .inl ⟨rfl, _, SqL.of epc'⟩, _, rfl, bc, cc, _, rfl, hcc', fun ct L2 k2 s2' => ?_⟩
      have epc2 := k2 _ _ epc'
      refine ⟨pc', cs', _, rfl, rfl, epc2, (by show cs'.length < 2 ^ 24; omega), fun L3 put => ?_⟩
      have tc := put.t epc2 rfl
      have gL3 : Same H L3 := fun a o e => put.keep ((gL'.trans' k2) _ _ e) (ne_of_none e hpcH')
      have fin : ∀ lie', lie' = (gst rs ss (i + 1)).lie → ∃ (v5 v6 : Option V) (pc : Addr) (acc cs : List V), [some (V.ref r), some (.int g), some (.ref pp), some (.ref pc'), some (.int lie'), some (.ref cc), some (.int x)] = [some (.ref r), some (.int g), some (.ref pp), some (.ref pc), some (.int (gst rs ss (i + 1)).lie), v5, v6] ∧ Same H L3 ∧ SqG b K L3 ps (xs.drop 1) ∧ L3 pp = some (.lst acc) ∧ Rows2 K H L3 (gst rs ss (i + 1)).done acc (fun q => q = pp ∨ q = pc) ∧ H pc = none ∧ pc ≠ pp ∧ L3 pc = some (.lst cs) ∧ HasL K L3 ((seg rs (gst rs ss (i + 1)).b (i + 1)).map ptD) cs ∧ (ps = pc → ∀ L', SqG b K L' ps (xs.drop 1)) ∧ ps ≠ pp := fun lie' el => by
        subst el
        refine ⟨_, _, pc', acc', _, rfl, gL3, SqG.putC put nps' (SqG.same k2 sL'), put.keep (k2 _ _ epp') npc'.symm, (rw'.same k2).put (.inr rfl) put epc2 rfl, hpcH', npc', put.at_, ?_, nps', npp⟩
        · rw [← eb', seg_succ hb' hi1, List.map_append]
          exact HasL.append (HasL.tsame tc (pts_t _) (HasL.same k2 lpc')) (hasL_cons (has_pt (SqT.tsame tc s2')) hasL_nil)
      have elie : (gst rs ss (i + 1)).lie = if x = 0 then (gst rs ss i).lie else x := by
        rw [gst, ex]
        split
        · rename_i z
          rw [if_neg z.1]
        · rfl
      refine ⟨_, rfl, rfl, _, rfl, iteB (fun hb => ?_) (fun hb => ?_)⟩
      · have ez : x = 0 := by simpa using hb
        exact ⟨_, rfl, fin _ (by rw [elie, if_pos ez])⟩
      · have ez : ¬ x = 0 := by simpa using hb
        exact ⟨_, rfl, fin _ (by rw [elie, if_neg ez])⟩
    · intro rest
      have stay : ¬ (x ≠ 0 ∧ (gst rs ss i).lie ≠ 0 ∧ x ≠ (gst rs ss i).lie) → gst rs ss (i + 1) = ⟨(gst rs ss i).done, (gst rs ss i).b, if x = 0 then (gst rs ss i).lie else x⟩ := fun z => by rw [gst, ex, if_neg z]
      have no : ¬ (x ≠ 0 ∧ (gst rs ss i).lie ≠ 0 ∧ x ≠ (gst rs ss i).lie) → ∃ (pc' : Addr) (acc' cs' : List V) (b' : Nat), [some (V.ref r), some (.int g), some (.ref pp), some (.ref pc), some (.int (gst rs ss i).lie), some (.ref cc), some (.int x)] = [some (.ref r), some (.int g), some (.ref pp), some (.ref pc'), some (.int (gst rs ss i).lie), some (.ref cc), some (.int x)] ∧ Same H L1 ∧ SqG b K L1 ps (xs.drop 1) ∧ L1 pp = some (.lst acc') ∧ Rows2 K H L1 (gst rs ss (i + 1)).done acc' (fun q => q = pp ∨ q = pc') ∧ H pc' = none ∧ pc' ≠ pp ∧ L1 pc' = some (.lst cs') ∧ HasL K L1 ((seg rs b' i).map ptD) cs' ∧ b' = (gst rs ss (i + 1)).b ∧ b' ≤ i ∧ cs'.length ≤ i + 1 ∧ (ps = pc' → ∀ M, SqG b K M ps (xs.drop 1)) := fun z => by
        rw [stay z]
        exact ⟨pc, acc, cs, (gst rs ss i).b, rfl, gL1, sL1, epp1, rw1, hpcH, npc, epc1, lpc1, rfl, gb.1, zcs, nps⟩
      refine ⟨_, rfl, rfl, _, rfl, iteB (fun hb1 => ?_) (fun hb1 => rest _ _ (no fun z => ?_))⟩
      · have n1 : x ≠ 0 := by simpa using hb1
        refine ⟨_, rfl, rfl, _, rfl, iteB (fun hb2 => ?_) (fun hb2 => rest _ _ (no fun z => ?_))⟩
        · have n2 : (gst rs ss i).lie ≠ 0 := by simpa using hb2
          refine ⟨_, rfl, _, rfl, rfl, _, rfl, iteB (fun hb3 => ?_) (fun hb3 => rest _ _ (no fun z => ?_))⟩
          · have n3 : x ≠ (gst rs ss i).lie := by simpa using hb3
            have cut : gst rs ss (i + 1) = ⟨(gst rs ss i).done ++ [tpc rs (gst rs ss i).b i (gst rs ss i).lie], i, x⟩ := by rw [gst, ex, if_pos ⟨n1, n2, n3⟩]
            refine ⟨_, rfl, .inl ⟨rfl, _, SqL.of epp1⟩, _, rfl, _, rfl, pc, cs, (gst rs ss i).lie, rfl, epc1, fun el pr L2 hpr k2 e2 => ?_, fun el => ?_⟩
            · -- turned about
              have epp2 := k2 _ _ epp1
              refine ⟨pp, acc, _, rfl, rfl, epp2, (by show acc.length < 2 ^ 24; omega), fun L3 put => ?_⟩
              have tc := put.t epp2 rfl
              have npr : pr ≠ pp := (ne_of_none epp1 hpr).symm
              have hprH : H pr = none := gL1.none hpr
              have epc3 := put.keep (k2 _ _ epc1) npc
              have sl3 := SqT.tsame tc (SqT.same k2 sl1)
              refine ⟨_, rfl, _, rfl, pc, _, _, _, rfl, rfl, SqL.of epc3, atl, (by show 1 ≤ sizeLine; decide), fun pn L4 hpn k4 e4 => ?_⟩
              have hpnH : H pn = none := by
                have z : L3 pn = none := hpn
                cases y : H pn with
                | none => rfl
                | some u => rw [put.keep ((gL1.trans' k2) _ _ y) (ne_of_none y hpp)] at z; cases z
              have npn : pn ≠ pp := (ne_of_none put.at_ hpn).symm
              refine rest _ _ ⟨pn, acc ++ [.ref pr], _, i, rfl, fun a o e => k4 _ _ (put.keep ((gL1.trans' k2) _ _ e) (ne_of_none e hpp)), SqG.same k4 (SqG.put put npp (SqG.same k2 sL1)), k4 _ _ put.at_, ?_, hpnH, npn, e4, ?_, by rw [cut], Nat.le_refl _, (by show 1 ≤ i + 1; omega), fun z => ?_⟩
              · rw [cut]
                have base2 := ((rw1.same k2).no (no' := fun q => q = pp) fun q z => .inl z).put rfl put epp2 rfl
                have := base2.snoc (q := pr) (xs := cs.reverse) (s := tpc rs (gst rs ss i).b i (gst rs ss i).lie) npr hprH (put.keep e2 npr) (by rw [tpc, if_pos el, List.map_reverse]; exact HasL.reverse (HasL.tsame tc (pts_t _) (HasL.same k2 lpc1)))
                refine ⟨this.len, fun j v s a b => ?_⟩
                obtain ⟨q, ys, e1, n, h0, e2, hl⟩ := this.it j v s a b
                exact ⟨q, ys, e1, fun z => z.elim n fun y => ne_of_none e2 hpn y, h0, k4 _ _ e2, HasL.same k4 hl⟩
              · rw [seg_one (by omega)]
                exact hasL_cons (has_pt (SqT.same k4 sl3)) hasL_nil
              · subst z
                exact SqG.const (SqG.put put npp (SqG.same k2 sL1)) hpn
            · -- as it is
              refine ⟨pp, acc, _, rfl, rfl, epp1, (by show acc.length < 2 ^ 24; omega), fun L3 put => ?_⟩
              have tc := put.t epp1 rfl
              have epc3 := put.keep epc1 npc
              have sl3 := SqT.tsame tc sl1
              refine ⟨_, rfl, _, rfl, pc, _, _, _, rfl, rfl, SqL.of epc3, atl, (by show 1 ≤ sizeLine; decide), fun pn L4 hpn k4 e4 => ?_⟩
              have hpnH : H pn = none := by
                have z : L3 pn = none := hpn
                cases y : H pn with
                | none => rfl
                | some u => rw [put.keep (gL1 _ _ y) (ne_of_none y hpp)] at z; cases z
              have npn : pn ≠ pp := (ne_of_none put.at_ hpn).symm
              refine rest _ _ ⟨pn, acc ++ [.ref pc], _, i, rfl, fun a o e => k4 _ _ (put.keep (gL1 _ _ e) (ne_of_none e hpp)), SqG.same k4 (SqG.put put npp sL1), k4 _ _ put.at_, ?_, hpnH, npn, e4, ?_, by rw [cut], Nat.le_refl _, (by show 1 ≤ i + 1; omega), fun z => ?_⟩
              · rw [cut]
                have base2 := (rw1.no (no' := fun q => q = pp) fun q z => .inl z).put rfl put epp1 rfl
                have := base2.snoc (q := pc) (xs := cs) (s := tpc rs (gst rs ss i).b i (gst rs ss i).lie) npc hpcH epc3 (by rw [tpc, if_neg el]; exact HasL.tsame tc (pts_t _) lpc1)
                refine ⟨this.len, fun j v s a b => ?_⟩
                obtain ⟨q, ys, e1, n, h0, e2, hl⟩ := this.it j v s a b
                exact ⟨q, ys, e1, fun z => z.elim n fun y => ne_of_none e2 hpn y, h0, k4 _ _ e2, HasL.same k4 hl⟩
              · rw [seg_one (by omega)]
                exact hasL_cons (has_pt (SqT.same k4 sl3)) hasL_nil
              · subst z
                exact SqG.const (SqG.put put npp sL1) hpn
          · have n3 : x = (gst rs ss i).lie := by simpa using hb3
            exact z.2.2 n3
        · have n2 : (gst rs ss i).lie = 0 := by simpa using hb2
          exact z.2.1 n2
      · have n1 : x = 0 := by simpa using hb1
        exact z.1 n1
  · rintro σ L ⟨v5, v6, pc, acc, cs, rfl, gL, sL, epp, rw2, hpcH, npc, epc, lpc, nps, npp⟩
    have hn : (xs.drop 1).length = ss.length := by rw [List.length_drop]; have := hR.len; omega
    rw [hn] at rw2 lpc ⊢
    have gb := (gst_b (rs := rs) (ss := ss) ss.length)
    have zacc : acc.length ≤ ss.length := by rw [rw2.len]; exact gb.2
    have hs1 : ss.length ≤ 2000 := by have := hR.len; omega
    refine ⟨_, rfl, .inl ⟨rfl, _, SqL.of epp⟩, _, rfl, _, rfl, pc, cs, _, rfl, epc, fun el pr L2 hpr k2 e2 => ?_, fun el => ?_⟩
    · have epp2 := k2 _ _ epp
      refine ⟨pp, acc, _, rfl, rfl, epp2, (by show acc.length < 2 ^ 24; omega), fun L3 put => ?_⟩
      have tc := put.t epp2 rfl
      have npr : pr ≠ pp := (ne_of_none epp hpr).symm
      refine ⟨_, rfl, q pp _ L3 hpp (fun a o e => put.keep ((gL.trans' k2) _ _ e) (ne_of_none e hpp)) put.at_ ?_⟩
      exact (((rw2.same k2).no (no' := fun q => q = pp) fun q z => .inl z).put rfl put epp2 rfl).snoc (q := pr) (xs := cs.reverse) npr (gL.none hpr) (put.keep e2 npr) (by rw [tpc, if_pos el, List.map_reverse]; exact HasL.reverse (HasL.tsame tc (pts_t _) (HasL.same k2 lpc)))
    · refine ⟨pp, acc, _, rfl, rfl, epp, (by show acc.length < 2 ^ 24; omega), fun L3 put => ?_⟩
      have tc := put.t epp rfl
      refine ⟨_, rfl, q pp _ L3 hpp (fun a o e => put.keep (gL _ _ e) (ne_of_none e hpp)) put.at_ ?_⟩
      exact ((rw2.no (no' := fun q => q = pp) fun q z => .inl z).put rfl put epp rfl).snoc (q := pc) (xs := cs) npc hpcH (put.keep epc npc) (by rw [tpc, if_neg el]; exact HasL.tsame tc (pts_t _) lpc)
end
end Mp

namespace Mp
open PySem L2
/-! ### cuts -/
theorem pe_def0 {X : Cx} {j k : Nat} {x : Str} {ps : List Str} {sp : Sp} {p pos : Pos} (D : Cal X.prog X.w X.K X.mg X.base j x ps sp) (hr : Room k X.A) (hg : Gl X x) (hjk : j ≤ k := by omega) (hdb : (x == ("__debug__" : Str)) = false := by decide) : PE X (.Call (.Name x p) [] [] pos) (tCall sp [] E0 tNil) := by
  obtain ⟨f, fd, F, hm, hk, hb⟩ := D.ex
  exact pe_call0 F (hr.mono hjk) hg hm hk hb .nil pass0 hdb
def pm {α : Type} (f : Nat → Nat → α) : List Nat → List α
  | b :: c :: r => f b c :: pm f (c :: r)
  | _ => []
theorem pm_len {α : Type} (f : Nat → Nat → α) : ∀ l : List Nat, (pm f l).length = l.length - 1
  | [] => rfl
  | [_] => rfl
  | b :: c :: r => by
    rw [pm, List.length_cons, pm_len f (c :: r)]
    rfl
theorem pm_get {α : Type} (f : Nat → Nat → α) : ∀ (l : List Nat) (j : Nat), j + 1 < l.length → (pm f l)[j]? = some (f (l.getD j 0) (l.getD (j + 1) 0))
  | [], j, h => by simp at h
  | [_], j, h => by simp at h
  | b :: c :: r, 0, _ => rfl
  | b :: c :: r, j + 1, h => by
    rw [pm, List.getElem?_cons_succ, pm_get f (c :: r) j (by simpa using h)]
    rfl
theorem pm_snoc {α : Type} (f : Nat → Nat → α) (n : Nat) : ∀ (l : List Nat) (b : Nat), pm f (l ++ [b] ++ [n]) = pm f (l ++ [b]) ++ [f b n]
  | [], b => rfl
  | [c], b => rfl
  | c :: d :: r, b => by
    have := pm_snoc f n (d :: r) b
    show f c d :: pm f (d :: r ++ [b] ++ [n]) = f c d :: pm f (d :: r ++ [b]) ++ [f b n]
    rw [this]
    rfl
def slI (ss : List Int) (b n : Nat) : List Int := (ss.drop b).take (n - b)
theorem slI_succ {ss : List Int} {b n : Nat} (hb : b ≤ n) (hn : n < ss.length) : slI ss b (n + 1) = slI ss b n ++ [ss.getD n 0] := by
  unfold slI
  rw [show n + 1 - b = (n - b) + 1 by omega, List.take_add_one, List.getElem?_drop, show b + (n - b) = n by omega, List.getElem?_eq_getElem hn, List.getD_eq_getElem?_getD, List.getElem?_eq_getElem hn]
  rfl
theorem slI_nil {ss : List Int} {n : Nat} : slI ss n n = [] := by
  unfold slI
  rw [Nat.sub_self, List.take_zero]
def fPc (rs : List (Int × Int)) (ss : List Int) (b e : Nat) : List (Int × Int) := if (-1) ∈ slI ss b e then (seg rs b e).reverse else seg rs b e
/-- the cuts so far, but the last one -/
def bsP (rs : List (Int × Int)) (ss : List Int) : Nat → List Nat
  | 0 => []
  | n + 1 => if ss.getD n 0 ≠ 0 ∧ (gst rs ss n).lie ≠ 0 ∧ ss.getD n 0 ≠ (gst rs ss n).lie then bsP rs ss n ++ [(gst rs ss n).b] else bsP rs ss n
structure CutsOk (rs : List (Int × Int)) (ss : List Int) (n : Nat) : Prop where
  done : (gst rs ss n).done = pm (fPc rs ss) (bsP rs ss n ++ [(gst rs ss n).b])
  neg : (-1) ∈ slI ss (gst rs ss n).b n ↔ (gst rs ss n).lie = -1
  pos : 1 ∈ slI ss (gst rs ss n).b n ↔ (gst rs ss n).lie = 1
  lie : (gst rs ss n).lie = 1 ∨ (gst rs ss n).lie = 0 ∨ (gst rs ss n).lie = -1
  le : ∀ b ∈ bsP rs ss n ++ [(gst rs ss n).b], b ≤ n
theorem tpc_f {rs : List (Int × Int)} {ss : List Int} {b n : Nat} {lie : Int} (h : (-1) ∈ slI ss b n ↔ lie = -1) : tpc rs b n lie = fPc rs ss b n := by
  unfold tpc fPc
  by_cases e : lie = -1
  · rw [if_pos e, if_pos (h.mpr e)]
  · rw [if_neg e, if_neg (fun z => e (h.mp z))]
theorem cuts_ok {rs : List (Int × Int)} {ss : List Int} (hss : ∀ i, i < ss.length → ss.getD i 0 = 1 ∨ ss.getD i 0 = 0 ∨ ss.getD i 0 = -1) : ∀ n, n ≤ ss.length → CutsOk rs ss n
  | 0, _ => ⟨rfl, by rw [show (gst rs ss 0).b = 0 from rfl, slI_nil]; exact ⟨fun z => by simp at z, fun z => by cases z⟩, by rw [show (gst rs ss 0).b = 0 from rfl, slI_nil]; exact ⟨fun z => by simp at z, fun z => by cases z⟩, .inr (.inl rfl), fun b hb => by
      have : b = 0 := by simpa [bsP, gst] using hb
      omega⟩
  | n + 1, hn => by
    have ih := cuts_ok (rs := rs) hss n (by omega)
    have gb := gst_b (rs := rs) (ss := ss) n
    have hx := hss n (by omega)
    have sl := slI_succ (ss := ss) gb.1 (show n < ss.length by omega)
    by_cases c : ss.getD n 0 ≠ 0 ∧ (gst rs ss n).lie ≠ 0 ∧ ss.getD n 0 ≠ (gst rs ss n).lie
    · have eg : gst rs ss (n + 1) = ⟨(gst rs ss n).done ++ [tpc rs (gst rs ss n).b n (gst rs ss n).lie], n, ss.getD n 0⟩ := by rw [gst, if_pos c]
      have eb : bsP rs ss (n + 1) = bsP rs ss n ++ [(gst rs ss n).b] := by rw [bsP, if_pos c]
      have s1 : slI ss n (n + 1) = [ss.getD n 0] := by rw [slI_succ (Nat.le_refl _) (by omega), slI_nil]; rfl
      refine ⟨?_, ?_, ?_, ?_, ?_⟩
      · rw [eg, eb]
        show (gst rs ss n).done ++ [tpc rs (gst rs ss n).b n (gst rs ss n).lie] = pm (fPc rs ss) (bsP rs ss n ++ [(gst rs ss n).b] ++ [n])
        rw [pm_snoc, ← ih.done, tpc_f ih.neg]
      · rw [eg]
        show (-1) ∈ slI ss n (n + 1) ↔ ss.getD n 0 = -1
        rw [s1, List.mem_singleton]
        exact eq_comm
      · rw [eg]
        show 1 ∈ slI ss n (n + 1) ↔ ss.getD n 0 = 1
        rw [s1, List.mem_singleton]
        exact eq_comm
      · rw [eg]
        exact hx
      · rw [eg, eb]
        intro b hb
        rcases List.mem_append.mp hb with h | h
        · have := ih.le b h
          omega
        · have : b = n := by simpa using h
          omega
    · have eg : gst rs ss (n + 1) = ⟨(gst rs ss n).done, (gst rs ss n).b, if ss.getD n 0 = 0 then (gst rs ss n).lie else ss.getD n 0⟩ := by rw [gst, if_neg c]
      have eb : bsP rs ss (n + 1) = bsP rs ss n := by rw [bsP, if_neg c]
      have c' : ss.getD n 0 = 0 ∨ (gst rs ss n).lie = 0 ∨ ss.getD n 0 = (gst rs ss n).lie := by
        by_cases z1 : ss.getD n 0 = 0
        · exact .inl z1
        · by_cases z2 : (gst rs ss n).lie = 0
          · exact .inr (.inl z2)
          · exact .inr (.inr (Decidable.byContradiction fun z3 => c ⟨z1, z2, z3⟩))
      refine ⟨?_, ?_, ?_, ?_, ?_⟩
      · rw [eg, eb]
        exact ih.done
      · rw [eg]
        show (-1) ∈ slI ss (gst rs ss n).b (n + 1) ↔ (if ss.getD n 0 = 0 then (gst rs ss n).lie else ss.getD n 0) = -1
        rw [sl, List.mem_append, List.mem_singleton, ih.neg]
        split <;> omega
      · rw [eg]
        show 1 ∈ slI ss (gst rs ss n).b (n + 1) ↔ (if ss.getD n 0 = 0 then (gst rs ss n).lie else ss.getD n 0) = 1
        rw [sl, List.mem_append, List.mem_singleton, ih.pos]
        split <;> omega
      · rw [eg]
        show (if ss.getD n 0 = 0 then (gst rs ss n).lie else ss.getD n 0) = 1 ∨ _ ∨ _
        have := ih.lie
        split <;> assumption
      · rw [eg, eb]
        intro b hb
        have := ih.le b hb
        omega
theorem pieces_pm {rs : List (Int × Int)} {ss : List Int} (hss : ∀ i, i < ss.length → ss.getD i 0 = 1 ∨ ss.getD i 0 = 0 ∨ ss.getD i 0 = -1) : piecesF rs ss = pm (fPc rs ss) (bsP rs ss ss.length ++ [(gst rs ss ss.length).b] ++ [ss.length]) := by
  have h := cuts_ok (rs := rs) hss ss.length (Nat.le_refl _)
  unfold piecesF
  rw [pm_snoc, ← h.done, tpc_f h.neg]
theorem cut_mul {x l : Int} (hx : x = 1 ∨ x = 0 ∨ x = -1) (hl : l = 1 ∨ l = 0 ∨ l = -1) : x * l < 0 ↔ (x ≠ 0 ∧ l ≠ 0 ∧ x ≠ l) := by
  rcases hx with rfl | rfl | rfl <;> rcases hl with rfl | rfl | rfl <;> decide
end Mp

namespace Mp
open PySem L2
theorem ite_yld {K : PySem.W.Frag} {b : Bool} {a : Addr} {xs : List V} {H1 H' H2 : Hp} {i : Nat} {v : V} (h1 : SqG b K H1 a xs) (s : Same H1 H') (h : (Ite K b a).yld i H' v H2) :
    ∃ p x, v = .ref p ∧ Same H' H2 ∧ H2 p = some (.tup [.int i, x]) ∧ xs[i]? = some x := by
  obtain ⟨p, x, hp, rfl, rfl, g1⟩ := h
  exact ⟨p, x, rfl, same_new hp _, upd_same, g1 xs (SqG.same s h1)⟩

theorem for_enum {K : PySem.W.Frag} {b1 : Bool} {a1 : Addr} {xs : List V} {g : TG} {tb : TS} {D : Ends} {σ : St} {H : Hp} (Pv : Nat → St → Hp → Prop) (h0 : Pv 0 σ H) (hl : ∀ i σ H, Pv i σ H → SqG b1 K H a1 xs)
    (hs : ∀ (i : Nat) p x σ H H', xs[i]? = some x → Pv i σ H → Same H H' → H' p = some (.tup [.int i, x]) → g (.ref p) σ H' fun σ2 H2 => tb { D with nx := Pv (i + 1), ct := Pv (i + 1), bk := D.nx } σ2 H2) (hd : ∀ σ H, Pv xs.length σ H → D.nx σ H) :
    ∃ W : Nat → Nat → St → Hp → Prop, (∃ m, W 0 m σ H) ∧ ∀ i m σ H, W i m σ H →
      ((Ite K b1 a1).stop i H ∧ D.nx σ H) ∨ ((Ite K b1 a1).go i H ∧ ∃ N : St → Hp → Prop, (∀ σ' H', N σ' H' → ∃ m', m' < m ∧ W (i + 1) m' σ' H') ∧ ∀ x H', (Ite K b1 a1).yld i H x H' → g x σ H' fun σ2 H2 => tb { D with nx := N, ct := N, bk := D.nx } σ2 H2) := by
  refine ⟨fun i m σ H => m = xs.length - i ∧ i ≤ xs.length ∧ Pv i σ H, ⟨xs.length, by simp, Nat.zero_le _, h0⟩, ?_⟩
  rintro i m σ H ⟨rfl, hi, p⟩
  have q1 := hl i σ H p
  by_cases hlt : i < xs.length
  · refine .inr ⟨⟨xs, xs[i], q1, List.getElem?_eq_getElem _⟩, Pv (i + 1), fun σ' H' p' => ⟨xs.length - (i + 1), by omega, rfl, hlt, p'⟩, fun x H' y => ?_⟩
    obtain ⟨pz, u, rfl, s1, e1, hu⟩ := ite_yld q1 (fun _ _ e => e) y
    exact hs i pz u σ H H' hu p s1 e1
  · have e : i = xs.length := by omega
    subst e
    exact .inl ⟨⟨xs, q1, rfl⟩, hd σ H p⟩
theorem pt_atN {K : PySem.W.Frag} {H : Hp} {ps : List (Int × Int)} {xs : List V} (h : HasL K H (ps.map ptD) xs) {m : Nat} (hm : m < ps.length) : ∃ a, atI xs (m : Int) = some (.ref a) ∧ SqT K H a [.int (ps.getD m (0, 0)).1, .int (ps.getD m (0, 0)).2] := by
  have hl := h.len
  rw [List.length_map] at hl
  have hx : m < xs.length := by omega
  obtain ⟨a, e, s⟩ := ptD_at h (List.getElem?_eq_getElem hx)
  exact ⟨a, (atI_nat (List.getElem?_eq_getElem hx)).trans (by rw [e]), s⟩
theorem cut_both {α : Type} {xs : List V} {b e : Nat} (hb : b ≤ xs.length) (he : e ≤ xs.length) : cutV xs (some (b : Int)) (some (e : Int)) = (xs.drop b).take (e - b) := by
  unfold cutV
  rw [HT.sIx_nat, HT.sIx_nat, show min b xs.length = b by omega, show min e xs.length = e by omega]
theorem inV_int {x : Int} : ∀ ns : List Int, inV (.int x) (ns.map V.int) = decide (x ∈ ns)
  | [] => by simp [inV]
  | n :: r => by
    have := inV_int (x := x) r
    unfold inV at this ⊢
    have e : eqV (.int n) (.int x) = decide (x = n) := by
      by_cases h : x = n
      · subst h
        simp [eqV]
      · have h' : ¬ n = x := fun z => h z.symm
        simp [eqV, h, h']
    rw [List.map_cons, List.any_cons, this, e, ← Bool.decide_or]
    simp only [List.mem_cons]
theorem flat_ints : ∀ ns : List Int, (ns.map V.int).all flatV = true
  | [] => rfl
  | n :: r => by
    rw [List.map_cons, List.all_cons, flat_ints r]
    rfl
def nI (b : Nat) : V := .int (b : Int)
def wyD (j : Nat) : Dt := ptD (dx j, dy j)
def spWays (K : PySem.W.Frag) : Sp := fun vs H Q _ => vs = [] ∧ ∀ (p : Addr) (acc : List V) (H' : Hp), H p = none → Same H H' → H' p = some (.lst acc) → HasL K H' ((List.range 8).map wyD) acc → Q (.ref p) H'
def spSide (K : PySem.W.Frag) : Sp := fun vs H Q _ => ∃ (c c' : Addr) (x y g : Int) (d : Nat), vs = [.ref c, .ref c', .int g] ∧ SqT K H c [.int x, .int y] ∧ SqT K H c' [.int (x + dx d), .int (y + dy d)] ∧ d < 8 ∧ ∀ H', Same H H' → Q (.int (sideN d g)) H'
def spLPieces (K : PySem.W.Frag) : Sp := fun vs H Q _ => ∃ (r : Addr) (xs : List V) (rs : List (Int × Int)) (ds : List Nat) (g : Int), vs = [.ref r, .int g] ∧ SqL K H r xs ∧ HasL K H (rs.map ptD) xs ∧ Road rs ds ∧ rs.length ≤ 2000 ∧
  ∀ (p : Addr) (acc : List V) (H' : Hp), H p = none → Same H H' → H' p = some (.lst acc) → Rows2 K H H' (piecesF rs (sidesN ds g)) acc (fun q => q = p) → Q (.ref p) H'
theorem wy_apart : ∀ i j : Fin 8, eqD (wyD i.val) (wyD j.val) = true → i = j := by
  intro i j h
  unfold wyD ptD at h
  rw [eqD, eqL_ints, decide_eq_true_iff, List.cons.injEq, List.cons.injEq] at h
  exact dirs_apart i j h.1 h.2.1
section
variable {P : Program} {w : World} {K : PySem.W.Frag} {mg : Str → Option Value} {base : Heap}
theorem scWy : FnScope [] [] (defScope s_ways) := ⟨rfl, rfl, rfl, by decide +kernel, rfl, by decide +kernel, by decide +kernel⟩
theorem ok_ways {f : Addr} {fd : FuncData} (F : Fun K "_law_ways" "_law_ways" s_ways f fd) : FnOk P w K mg base CX0 1 f fd [] (spWays K) := by
  refine F.ok scWy (fun vs H Q E h => ?_) (fun cdv A outer s H vs Q E hr h => ?_)
  · obtain ⟨rfl, _⟩ := h
    rfl
  obtain ⟨rfl, q⟩ := h
  have sc := @scWy
  refine ⟨_, (@pss_one _ _ _ (@ps_ret _ _ _ _ (@pe_lstA _ _ _ _ (@pa_cons _ _ _ _ _ (@pe_tupA _ _ _ _ _ (@pa_cons _ _ _ _ _ pe_int (@pa_cons _ _ _ _ _ pe_int pa_nil (by rfl)) (by rfl))) (@pa_cons _ _ _ _ _ (@pe_tupA _ _ _ _ _ (@pa_cons _ _ _ _ _ pe_int (@pa_cons _ _ _ _ _ pe_int pa_nil (by rfl)) (by rfl))) (@pa_cons _ _ _ _ _ (@pe_tupA _ _ _ _ _ (@pa_cons _ _ _ _ _ pe_int (@pa_cons _ _ _ _ _ pe_int pa_nil (by rfl)) (by rfl))) (@pa_cons _ _ _ _ _ (@pe_tupA _ _ _ _ _ (@pa_cons _ _ _ _ _ (@pe_un _ _ _ _ _ _ un_neg pe_int) (@pa_cons _ _ _ _ _ pe_int pa_nil (by rfl)) (by rfl))) (@pa_cons _ _ _ _ _ (@pe_tupA _ _ _ _ _ (@pa_cons _ _ _ _ _ (@pe_un _ _ _ _ _ _ un_neg pe_int) (@pa_cons _ _ _ _ _ pe_int pa_nil (by rfl)) (by rfl))) (@pa_cons _ _ _ _ _ (@pe_tupA _ _ _ _ _ (@pa_cons _ _ _ _ _ (@pe_un _ _ _ _ _ _ un_neg pe_int) (@pa_cons _ _ _ _ _ (@pe_un _ _ _ _ _ _ un_neg pe_int) pa_nil (by rfl)) (by rfl))) (@pa_cons _ _ _ _ _ (@pe_tupA _ _ _ _ _ (@pa_cons _ _ _ _ _ pe_int (@pa_cons _ _ _ _ _ (@pe_un _ _ _ _ _ _ un_neg pe_int) pa_nil (by rfl)) (by rfl))) (@pa_cons _ _ _ _ _ (@pe_tupA _ _ _ _ _ (@pa_cons _ _ _ _ _ pe_int (@pa_cons _ _ _ _ _ (@pe_un _ _ _ _ _ _ un_neg pe_int) pa_nil (by rfl)) (by rfl))) pa_nil (by rfl)) (by rfl)) (by rfl)) (by rfl)) (by rfl)) (by rfl)) (by rfl)) (by rfl))))), ?_⟩
  refine ⟨(by show 2 ≤ sizeLine; decide), fun q0 I0 _ i0 w0 => ?_⟩
  refine ⟨(by show 2 ≤ sizeLine; decide), fun q1 I1 _ i1 w1 => ?_⟩
  refine ⟨(by show 2 ≤ sizeLine; decide), fun q2 I2 _ i2 w2 => ?_⟩
  refine ⟨_, rfl, (by show 2 ≤ sizeLine; decide), fun q3 I3 _ i3 w3 => ?_⟩
  refine ⟨_, rfl, (by show 2 ≤ sizeLine; decide), fun q4 I4 _ i4 w4 => ?_⟩
  refine ⟨_, rfl, _, rfl, (by show 2 ≤ sizeLine; decide), fun q5 I5 _ i5 w5 => ?_⟩
  refine ⟨_, rfl, (by show 2 ≤ sizeLine; decide), fun q6 I6 _ i6 w6 => ?_⟩
  refine ⟨_, rfl, (by show 2 ≤ sizeLine; decide), fun q7 I7 _ i7 w7 => ?_⟩
  refine ⟨(by show 8 ≤ sizeLine; decide), fun ll I8 hll i8 wl => ?_⟩
  have j7 := i8
  have j6 := i7.trans' j7
  have j5 := i6.trans' j6
  have j4 := i5.trans' j5
  have j3 := i4.trans' j4
  have j2 := i3.trans' j3
  have j1 := i2.trans' j2
  have j0 := i1.trans' j1
  refine q ll _ I8 ((i0.trans' (i1.trans' (i2.trans' (i3.trans' (i4.trans' (i5.trans' (i6.trans' i7))))))).none hll) (i0.trans' j0) wl ?_
  show HasL K I8 [wyD 0, wyD 1, wyD 2, wyD 3, wyD 4, wyD 5, wyD 6, wyD 7] _
  exact hasL_cons (has_pt (SqT.of (j0 _ _ w0))) (hasL_cons (has_pt (SqT.of (j1 _ _ w1))) (hasL_cons (has_pt (SqT.of (j2 _ _ w2))) (hasL_cons (has_pt (SqT.of (j3 _ _ w3))) (hasL_cons (has_pt (SqT.of (j4 _ _ w4))) (hasL_cons (has_pt (SqT.of (j5 _ _ w5))) (hasL_cons (has_pt (SqT.of (j6 _ _ w6))) (hasL_cons (has_pt (SqT.of (j7 _ _ w7))) hasL_nil)))))))
theorem scSi : FnScope ["_law_one", "_law_other", "_law_grain", "_law_turned"] ["_law_one", "_law_other", "_law_grain"] (defScope s_side) := ⟨rfl, rfl, rfl, by decide +kernel, rfl, by decide +kernel, by decide +kernel⟩
theorem ok_side {f : Addr} {fd : FuncData} (F : Fun K "_law_side" "_law_side" s_side f fd) (G_ways : Cal P w K mg base 1 "_law_ways" [] (spWays K)) : FnOk P w K mg base CX0 2 f fd ["_law_one", "_law_other", "_law_grain"] (spSide K) := by
  refine F.ok scSi (fun vs H Q E h => ?_) (fun cdv A outer s H vs Q E hr h => ?_)
  · obtain ⟨c, c', x, y, g, d, rfl, _⟩ := h
    rfl
  obtain ⟨c, c', x, y, g, d, rfl, h1, h2, hd, q⟩ := h
  have sc := @scSi
  refine ⟨_, (@pss_cons _ _ _ _ _ (@ps_set _ _ 3 _ _ _ _ sc.nd rfl (Or.inl rfl) (@pe_op _ _ _ _ _ _ _ _ op_mod (@pe_op _ _ _ _ _ _ _ _ op_sub (pe_bm PySem.F.plainAttrs_list PySem.F.slot_list_index PySem.F.type_list_index mt_indexD (pe_def0 G_ways hr (by rfl)) (@pa_cons _ _ _ _ _ (@pe_tupA _ _ _ _ _ (@pa_cons _ _ _ _ _ (@pe_op _ _ _ _ _ _ _ _ op_sub (@pe_ix _ _ _ _ _ _ _ ix_tup (pv 1) pe_int (fun _ _ => rfl)) (@pe_ix _ _ _ _ _ _ _ ix_tup (pv 0) pe_int (fun _ _ => rfl))) (@pa_cons _ _ _ _ _ (@pe_op _ _ _ _ _ _ _ _ op_sub (@pe_ix _ _ _ _ _ _ _ ix_tup (pv 1) pe_int (fun _ _ => rfl)) (@pe_ix _ _ _ _ _ _ _ ix_tup (pv 0) pe_int (fun _ _ => rfl))) pa_nil (by rfl)) (by rfl))) pa_nil (by rfl))) (pv 2)) pe_int) (by rfl) (Or.inl rfl)) (@pss_one _ _ _ (@ps_ret _ _ _ _ (@pe_ix _ _ _ _ _ _ _ ix_list (@pe_lstA _ _ _ _ (@pa_cons _ _ _ _ _ pe_int (@pa_cons _ _ _ _ _ pe_int (@pa_cons _ _ _ _ _ pe_int (@pa_cons _ _ _ _ _ (@pe_un _ _ _ _ _ _ un_neg pe_int) (@pa_cons _ _ _ _ _ (@pe_un _ _ _ _ _ _ un_neg pe_int) (@pa_cons _ _ _ _ _ (@pe_un _ _ _ _ _ _ un_neg pe_int) (@pa_cons _ _ _ _ _ pe_int (@pa_cons _ _ _ _ _ pe_int pa_nil (by rfl)) (by rfl)) (by rfl)) (by rfl)) (by rfl)) (by rfl)) (by rfl)) (by rfl))) (pv 3) (fun _ _ => rfl))))), ?_⟩
  refine ⟨rfl, fun pl al H1 hpl g1 el ll => ?_⟩
  have h11 := SqT.same g1 h1
  have h21 := SqT.same g1 h2
  refine ⟨.inl ⟨rfl, _, SqL.of el⟩, ?_⟩
  refine ⟨_, rfl, c', _, _, _, rfl, rfl, h21, atI_nat (j := 0) rfl, _, rfl, c, _, _, _, rfl, rfl, h11, atI_nat (j := 0) rfl, _, _, rfl, rfl, ?_⟩
  refine ⟨_, rfl, c', _, _, _, rfl, rfl, h21, atI_nat (j := 1) rfl, _, rfl, c, _, _, _, rfl, rfl, h11, atI_nat (j := 1) rfl, _, _, rfl, rfl, ?_⟩
  refine ⟨(by show 2 ≤ sizeLine; decide), fun pd H2 _ g2 ed => ?_⟩
  have ed : H2 pd = some (.tup [.int (x + dx d - x), .int (y + dy d - y)]) := ed
  rw [show x + dx d - x = dx d by omega, show y + dy d - y = dy d by omega] at ed
  refine ⟨pl, al, (List.range 8).map wyD, _, wyD d, d, wyD d, rfl, rfl, g2 _ _ el, HasL.same g2 ll, has_pt (SqT.of ed), ?_, eqD_same _, fun m e hm he => ?_, ?_, ?_⟩
  · rw [List.getElem?_map, List.getElem?_range hd]
    rfl
  · rw [List.getElem?_map, List.getElem?_range (by omega)] at he
    cases he
    cases hh : eqD (wyD m) (wyD d) with
    | false => rfl
    | true =>
      have := congrArg Fin.val (wy_apart ⟨m, by omega⟩ ⟨d, hd⟩ hh)
      exact absurd this (by show ¬ m = d; omega)
  · have : dptL ((List.range 8).map wyD) ≤ 1 := by
      show dptL [wyD 0, wyD 1, wyD 2, wyD 3, wyD 4, wyD 5, wyD 6, wyD 7] ≤ 1
      unfold wyD ptD
      simp only [dptL, dpt, dptL_ints]
      decide
    have ru := hr.un
    show (A.deeper _).units + 5 + _ < cLine
    omega
  · refine ⟨_, rfl, _, _, rfl, rfl, _, _, rfl, rfl, (by show (0 : Int) < 8; decide), ?_⟩
    have h0 : 0 ≤ ((d : Int) - g) % 8 := Int.emod_nonneg _ (by decide)
    have h8 : ((d : Int) - g) % 8 < 8 := Int.emod_lt_of_pos _ (by decide)
    show gName 3 (V.int (((d : Int) - g) % 8)) _ _ _
    refine ⟨_, rfl, _, rfl, _, rfl, (by show 8 ≤ sizeLine; decide), fun lt H3 _ g3 e3 => ?_⟩
    refine ⟨_, rfl, lt, _, _, _, rfl, rfl, SqL.of e3, ?_, q H3 (g1.trans' (g2.trans' g3))⟩
    unfold sideN
    generalize ((d : Int) - g) % 8 = e at *
    have : e = 0 ∨ e = 1 ∨ e = 2 ∨ e = 3 ∨ e = 4 ∨ e = 5 ∨ e = 6 ∨ e = 7 := by omega
    rcases this with rfl | rfl | rfl | rfl | rfl | rfl | rfl | rfl <;> rfl
theorem scPc : FnScope ["_law_road", "_law_grain", "_law_k", "_law_sides", "_law_cuts", "_law_last", "_law_side_here", "_law_pieces_here", "_law_begin_here", "_law_end", "_law_piece"] ["_law_road", "_law_grain"] (defScope s_pieces) := ⟨rfl, rfl, rfl, by decide +kernel, rfl, by decide +kernel, by decide +kernel⟩
set_option maxHeartbeats 2000000 in
theorem ok_lpieces {f : Addr} {fd : FuncData} (F : Fun K "_law_pieces" "_law_pieces" s_pieces f fd) (T : Txt mg) (G_side : Cal P w K mg base 2 "_law_side" ["_law_one", "_law_other", "_law_grain"] (spSide K)) : FnOk P w K mg base CX0 3 f fd ["_law_road", "_law_grain"] (spLPieces K) := by
  refine F.ok scPc (fun vs H Q E h => ?_) (fun cdv A outer s H vs Q E hr h => ?_)
  · obtain ⟨r, xs, rs, ds, g, rfl, _⟩ := h
    rfl
  obtain ⟨r, xs, rs, ds, g, rfl, hs, hp, hR, hlen, q⟩ := h
  have sc := @scPc
  have nd1 : (["_law_k", "_law_road", "_law_grain"] : List Str).Nodup := by decide +kernel
  have hxl : xs.length = rs.length := by rw [← hp.len, List.length_map]
  have hrl := hR.len
  obtain ⟨ss, ess⟩ : ∃ ss, ss = sidesN ds g := ⟨_, rfl⟩
  have hss : ss.length = ds.length := by rw [ess, sidesN, List.length_map]
  have ssat : ∀ i, i < ds.length → ss.getD i 0 = sideN (ds.getD i 0) g := fun i hi => by rw [ess]; exact sidesN_at hi
  have s3 : ∀ i, i < ss.length → ss.getD i 0 = 1 ∨ ss.getD i 0 = 0 ∨ ss.getD i 0 = -1 := fun i hi => by rw [ssat i (by omega)]; exact sideN_in _ _
  rw [← ess] at q
  refine ⟨_, (@pss_cons _ _ _ _ _ (ps_setC sc (i := 3) ["_law_k", "_law_road", "_law_grain"] [none, some 0, some 1] nd1 (by decide +kernel) rfl (Or.inl rfl) (pi_range1 (by rfl) T.range (@pa_cons _ _ _ _ _ (@pe_op _ _ _ _ _ _ _ _ op_sub (@pe_callB _ _ _ _ _ _ _ _ _ call_lenA (by rfl) T.len (by decide +kernel) (@pa_cons _ _ _ _ _ (pv 0) pa_nil (by rfl)) (by decide) (by decide) (by rfl) (by rfl)) pe_int) pa_nil (by rfl))) (fun _ _ _ => (pg_name (i := 0) nd1 rfl (Or.inl rfl) (Or.inr rfl))) (fun _ _ _ => pts_nil) (fun _ _ _ => (@pe_def _ _ _ _ _ _ _ _ _ _ _ G_side hr (by rfl) (@pa_cons _ _ _ _ _ (@pe_ix _ _ _ _ _ _ _ ix_list (pv 1) (pv 0) (fun _ _ => rfl)) (@pa_cons _ _ _ _ _ (@pe_ix _ _ _ _ _ _ _ ix_list (pv 1) (@pe_op _ _ _ _ _ _ _ _ op_add (pv 0) pe_int) (fun _ _ => rfl)) (@pa_cons _ _ _ _ _ (pv 2) pa_nil (by rfl)) (by rfl)) (by rfl)) (by omega) (by decide) (by rfl) (by rfl))) (by rfl)) (@pss_cons _ _ _ _ _ (@ps_set _ _ 4 _ _ _ _ sc.nd rfl (Or.inl rfl) (@pe_lstA _ _ _ _ (@pa_cons _ _ _ _ _ pe_int pa_nil (by rfl))) (by rfl) (Or.inl rfl)) (@pss_cons _ _ _ _ _ (@ps_set _ _ 5 _ _ _ _ sc.nd rfl (Or.inl rfl) pe_int (by rfl) (Or.inl rfl)) (@pss_cons _ _ _ _ _ (@ps_for _ _ _ _ _ _ _ _ PassesOwn.never rfl (pi_enum (by rfl) T.enumerate (@pa_cons _ _ _ _ _ (pv 3) pa_nil (by rfl))) (pg_tup rfl (pgs_cons (pg_name (i := 2) sc.nd rfl (Or.inl rfl)) (pgs_cons (pg_name (i := 6) sc.nd rfl (Or.inl rfl)) pgs_nil))) (@pss_cons _ _ _ _ _ (@ps_if _ _ _ _ _ _ _ _ (@pt_cmpR _ _ _ _ _ _ _ _ op_lt (@pe_op _ _ _ _ _ _ _ _ op_mul (pv 6) (pv 5)) pe_int (nomark _)) (@pss_one _ _ _ (ps_expr (pe_bm PySem.F.plainAttrs_list PySem.F.slot_list_append PySem.F.type_list_append mt_appendA (pv 4) (@pa_cons _ _ _ _ _ (pv 2) pa_nil (by rfl))))) pss_nil) (@pss_one _ _ _ (@ps_if _ _ _ _ _ _ _ _ (@pt_cmpR _ _ _ _ _ _ _ _ op_ne (pv 6) pe_int (nomark _)) (@pss_one _ _ _ (@ps_set _ _ 5 _ _ _ _ sc.nd rfl (Or.inl rfl) (pv 6) (by rfl) (Or.inl rfl))) pss_nil))) (by intro _; rfl)) (@pss_cons _ _ _ _ _ (@ps_set _ _ 7 _ _ _ _ sc.nd rfl (Or.inl rfl) (@pe_lstA _ _ _ _ pa_nil) (by rfl) (Or.inl rfl)) (@pss_cons _ _ _ _ _ (@ps_for _ _ _ _ _ _ _ _ PassesOwn.never rfl (pi_enum (by rfl) T.enumerate (@pa_cons _ _ _ _ _ (pv 4) pa_nil (by rfl))) (pg_tup rfl (pgs_cons (pg_name (i := 2) sc.nd rfl (Or.inl rfl)) (pgs_cons (pg_name (i := 8) sc.nd rfl (Or.inl rfl)) pgs_nil))) (@pss_cons _ _ _ _ _ (@ps_set _ _ 9 _ _ _ _ sc.nd rfl (Or.inl rfl) (@pe_ix _ _ _ _ _ _ _ ix_list (@pe_op _ _ _ _ _ _ _ _ op_catA (pv 4) (@pe_lstA _ _ _ _ (@pa_cons _ _ _ _ _ (@pe_op _ _ _ _ _ _ _ _ op_sub (@pe_callB _ _ _ _ _ _ _ _ _ call_lenA (by rfl) T.len (by decide +kernel) (@pa_cons _ _ _ _ _ (pv 0) pa_nil (by rfl)) (by decide) (by decide) (by rfl) (by rfl)) pe_int) pa_nil (by rfl)))) (@pe_op _ _ _ _ _ _ _ _ op_add (pv 2) pe_int) (fun _ _ => rfl)) (by rfl) (Or.inl rfl)) (@pss_cons _ _ _ _ _ (@ps_set _ _ 10 _ _ _ _ sc.nd rfl (Or.inl rfl) (@pe_slice _ _ _ _ _ _ _ _ _ _ sl_listA (pv 0) (po_some (pv 8)) (po_some (@pe_op _ _ _ _ _ _ _ _ op_add (pv 9) pe_int))) (by rfl) (Or.inl rfl)) (@pss_cons _ _ _ _ _ (@ps_if _ _ _ _ _ _ _ _ (@pt_cmpR _ _ _ _ _ _ _ _ op_in_seq (@pe_un _ _ _ _ _ _ un_neg pe_int) (@pe_slice _ _ _ _ _ _ _ _ _ _ sl_listA (pv 3) (po_some (pv 8)) (po_some (pv 9))) (by with_unfolding_all rfl)) (@pss_one _ _ _ (ps_expr (pe_bm0 PySem.F.plainAttrs_list PySem.F.slot_list_reverse PySem.F.type_list_reverse mt_reverse (pv 10)))) pss_nil) (@pss_one _ _ _ (ps_expr (pe_bm PySem.F.plainAttrs_list PySem.F.slot_list_append PySem.F.type_list_append mt_appendA (pv 7) (@pa_cons _ _ _ _ _ (pv 10) pa_nil (by rfl)))))))) (by intro _; rfl)) (@pss_one _ _ _ (@ps_ret _ _ _ _ (pv 7))))))))), ?_⟩
  -- sides
  have hml : (((xs.length : Nat) : Int) - 1).toNat = ss.length := by omega
  refine ⟨_, rfl, false, r, xs, rfl, hs, _, _, rfl, rfl, ((xs.length : Nat) : Int) - 1, rfl, by omega, by omega, comp_range (K := K) (frs := [some 0, some 1]) (by show _ < 2 ^ 24; omega) (fun i => .int (ss.getD i 0)) (fun i => rfl) ?_ ?_⟩
  · intro s3' H3' fp i H' hi sm Ap hA
    have hi' : i < ds.length := by omega
    obtain ⟨a, hat, hsq⟩ := pt_atN (HasL.same sm hp) (m := i) (by omega)
    obtain ⟨a2, hat2, hsq2⟩ := pt_atN (HasL.same sm hp) (m := i + 1) (by omega)
    rw [hR.go i hi'] at hsq2
    rw [← Int.zero_add (i : Int)] at hat
    rw [show ((i + 1 : Nat) : Int) = 0 + (i : Int) + 1 by omega] at hat2
    refine ⟨_, rfl, _, rfl, r, _, _, _, rfl, rfl, SqL.same sm hs, hat, _, rfl, _, rfl, _, _, rfl, rfl, r, _, _, _, rfl, rfl, SqL.same sm hs, hat2, _, rfl, a, a2, _, _, g, ds.getD i 0, rfl, hsq, hsq2, hR.d8 i hi', fun H5 g5 => ?_⟩
    refine hA _ _ g5 ?_
    rw [ssat i hi', Has]
  intro psd asd H1 hpsd g1 e1 l1
  have easd : asd = ss.map V.int := by
    have := hasL_intsOf (f := fun i => ss.getD i 0) l1
    rw [this, hml]
    congr 1
    exact (map_getD ss 0 (fun z => z)).trans (List.map_id _)
  subst easd
  -- cuts
  refine ⟨(by show 1 ≤ sizeLine; decide), fun pcu H2 hpcu g2 e2 => ?_⟩
  have hpcuH : H pcu = none := g1.none hpcu
  have ncu : psd ≠ pcu := fun z => by rw [← z, e1] at hpcu; cases hpcu
  refine ⟨_, rfl, false, psd, rfl, ⟨_, SqL.of (g2 _ _ e1)⟩, for_enum (K := K) (b1 := false) (a1 := psd) (xs := ss.map V.int) (fun i σ L => ∃ (v2 v6 : Option V), σ = [some (.ref r), some (.int g), v2, some (.ref psd), some (.ref pcu), some (.int (gst rs ss i).lie), v6, none, none, none, none] ∧ Same H L ∧ L psd = some (.lst (ss.map V.int)) ∧ L pcu = some (.lst ((bsP rs ss i ++ [(gst rs ss i).b]).map nI)))
    ⟨none, none, rfl, g1.trans' g2, g2 _ _ e1, e2⟩ (fun i σ L ⟨_, _, _, _, z, _⟩ => SqL.of z) ?_ ?_⟩
  · rintro i pz x σ L L1 hx ⟨v2, v6, rfl, gL, eps, ecu⟩ gz ez
    rw [List.getElem?_map] at hx
    obtain ⟨y, hy, rfl⟩ : ∃ y, ss[i]? = some y ∧ x = .int y := by
      cases hh : ss[i]? with
      | none => rw [hh] at hx; cases hx
      | some y => rw [hh] at hx; exact ⟨y, rfl, (Option.some.inj hx).symm⟩
    have hi : i < ss.length := (List.getElem?_eq_some_iff.mp hy).1
    have ey : ss.getD i 0 = y := by rw [List.getD_eq_getElem?_getD, hy]; rfl
    have hy3 := s3 i hi
    rw [ey] at hy3
    have hl3 := (cuts_ok (rs := rs) s3 i (by omega)).lie
    have epsL := gz _ _ eps
    have ecuL := gz _ _ ecu
    have gL1 := gL.trans' gz
    refine ⟨pz, _, rfl, SqT.of ez, rfl, _, _, rfl, _, _, rfl, rfl, ?_⟩
    dsimp only [gName, gCons, gNil]
    have zb : (bsP rs ss i).length ≤ i := by
      have h1 := (cuts_ok (rs := rs) s3 i (by omega)).done
      have h2 := (gst_b (rs := rs) (ss := ss) i).2
      rw [h1, pm_len, List.length_append] at h2
      exact h2
    have hcut := cut_mul hy3 hl3
    refine if_split (fun σ' L' => σ' = [some (.ref r), some (.int g), some (.int i), some (.ref psd), some (.ref pcu), some (.int (gst rs ss i).lie), some (.int y), none, none, none, none] ∧ Same H L' ∧ L' psd = some (.lst (ss.map V.int)) ∧ L' pcu = some (.lst ((bsP rs ss (i + 1) ++ [(gst rs ss (i + 1)).b]).map nI))) ?_ ?_
    · rintro σ' L' ⟨rfl, gL', eps', ecu'⟩
      have elie : (gst rs ss (i + 1)).lie = if y = 0 then (gst rs ss i).lie else y := by
        rw [gst, ey]
        split
        · rename_i z
          rw [if_neg z.1]
        · rfl
      refine ⟨_, rfl, rfl, _, rfl, iteB (fun hb => ?_) (fun hb => ?_)⟩
      · have ez : ¬ y = 0 := by simpa using hb
        rw [if_neg ez] at elie
        refine ⟨_, rfl, some (.int i), some (.int y), ?_, gL', eps', ecu'⟩
        rw [elie]
        rfl
      · have ez : y = 0 := by simpa using hb
        rw [if_pos ez] at elie
        refine ⟨some (.int i), some (.int y), ?_, gL', eps', ecu'⟩
        rw [elie]
    · intro rest
      refine ⟨_, rfl, _, rfl, _, _, rfl, rfl, .inl ⟨by omega, by omega⟩, _, _, rfl, rfl, _, rfl, iteB (fun hb => ?_) (fun hb => ?_)⟩
      · have hc := hcut.mp (by simpa using hb)
        refine ⟨_, rfl, .inl ⟨rfl, _, SqL.of ecuL⟩, _, rfl, pcu, _, _, rfl, rfl, ecuL, (by show _ < 2 ^ 24; rw [List.length_map, List.length_append]; show _ + 1 < 2 ^ 24; omega), fun L2 put => rest _ _ ⟨rfl, fun a o e => put.keep (gL1 _ _ e) (ne_of_none e hpcuH), put.keep epsL ncu, ?_⟩⟩
        rw [put.at_, bsP, gst, ey, if_pos hc, if_pos hc]
        simp only [List.map_append]
        rfl
      · have hc : ¬ (y ≠ 0 ∧ (gst rs ss i).lie ≠ 0 ∧ y ≠ (gst rs ss i).lie) := fun z => by
          have h1 := hcut.mpr z
          have h2 : ¬ y * (gst rs ss i).lie < 0 := by simpa using hb
          exact h2 h1
        refine rest _ _ ⟨rfl, gL1, epsL, ?_⟩
        rw [ecuL, bsP, gst, ey, if_neg hc, if_neg hc]
  · rintro σ L ⟨v2, v6, rfl, gL, eps, ecu⟩
    rw [List.length_map] at ecu ⊢
    obtain ⟨B, eB⟩ : ∃ B, B = bsP rs ss ss.length ++ [(gst rs ss ss.length).b] := ⟨_, rfl⟩
    have hco := cuts_ok (rs := rs) s3 ss.length (Nat.le_refl _)
    have hBle : ∀ b ∈ B, b ≤ ss.length := by rw [eB]; exact hco.le
    have hBl : B.length ≤ ss.length + 1 := by
      have h1 := hco.done
      have h2 := (gst_b (rs := rs) (ss := ss) ss.length).2
      rw [h1, pm_len, List.length_append] at h2
      rw [eB, List.length_append]
      show _ + 1 ≤ _
      exact Nat.succ_le_succ h2
    have epf : piecesF rs ss = pm (fPc rs ss) (B ++ [ss.length]) := by rw [eB]; exact pieces_pm s3
    rw [← eB] at ecu
    rw [epf] at q
    generalize (gst rs ss ss.length).lie = lie0
    refine ⟨(by show 0 ≤ sizeLine; decide), fun pp L1 hpp k1 e3 => ?_⟩
    have hppH : H pp = none := gL.none hpp
    have npd : psd ≠ pp := (ne_of_none eps hpp)
    have npc : pcu ≠ pp := (ne_of_none ecu hpp)
    refine ⟨_, rfl, false, pcu, rfl, ⟨_, SqL.of (k1 _ _ ecu)⟩, for_enum (K := K) (b1 := false) (a1 := pcu) (xs := B.map nI) (fun j σ L => ∃ (v2 v8 v9 v10 : Option V) (acc : List V), σ = [some (.ref r), some (.int g), v2, some (.ref psd), some (.ref pcu), some (.int lie0), v6, some (.ref pp), v8, v9, v10] ∧ Same H L ∧ L psd = some (.lst (ss.map V.int)) ∧ L pcu = some (.lst (B.map nI)) ∧ L pp = some (.lst acc) ∧ Rows2 K H L ((pm (fPc rs ss) (B ++ [ss.length])).take j) acc (fun q => q = pp))
      ⟨v2, none, none, none, [], rfl, gL.trans' k1, k1 _ _ eps, k1 _ _ ecu, e3, ⟨rfl, fun j v s a => by simp at a⟩⟩ (fun i σ L ⟨_, _, _, _, _, _, _, _, z, _⟩ => SqL.of z) ?_ ?_⟩
    · rintro j pz x σ L L1 hx ⟨v2, v8, v9, v10, acc, rfl, gL, eps, ecu, epp, rw2⟩ gz ez
      rw [List.getElem?_map] at hx
      obtain ⟨b, hb, rfl⟩ : ∃ b, B[j]? = some b ∧ x = nI b := by
        cases hh : B[j]? with
        | none => rw [hh] at hx; cases hx
        | some y => rw [hh] at hx; exact ⟨y, rfl, (Option.some.inj hx).symm⟩
      have hj : j < B.length := (List.getElem?_eq_some_iff.mp hb).1
      have hbl : b ≤ ss.length := hBle b (List.mem_of_getElem? hb)
      obtain ⟨e, ee, hel⟩ : ∃ e, (B ++ [ss.length])[j + 1]? = some e ∧ e ≤ ss.length := by
        by_cases c : j + 1 < B.length
        · exact ⟨B[j + 1], by rw [List.getElem?_append_left c, List.getElem?_eq_getElem c], hBle _ (List.getElem_mem c)⟩
        · exact ⟨ss.length, by rw [List.getElem?_append_right (by omega), show j + 1 - B.length = 0 by omega]; rfl, Nat.le_refl _⟩
      have hpm : (pm (fPc rs ss) (B ++ [ss.length]))[j]? = some (fPc rs ss b e) := by
        rw [pm_get _ _ _ (by rw [List.length_append]; show j + 1 < _ + 1; omega)]
        rw [List.getD_eq_getElem?_getD, List.getD_eq_getElem?_getD, ee, List.getElem?_append_left hj, hb]
        rfl
      have gL1 := gL.trans' gz
      have eps1 := gz _ _ eps
      have ecu1 := gz _ _ ecu
      have epp1 := gz _ _ epp
      have rw1 := rw2.same gz
      clear eps ecu epp rw2 gL
      refine ⟨pz, _, rfl, SqT.of ez, rfl, _, _, rfl, _, _, rfl, rfl, ?_⟩
      -- end
      have hs1 := SqL.same gL1 hs
      refine ⟨_, rfl, _, rfl, false, r, xs, rfl, hs1, _, _, rfl, rfl, (by show 1 ≤ sizeLine; decide), fun q1 M1 _ m1 w1 => ?_⟩
      refine ⟨pcu, q1, _, _, rfl, rfl, m1 _ _ ecu1, w1, (by show _ ≤ 2 ^ 24; rw [List.length_map]; show _ + 1 ≤ 2 ^ 24; omega), fun q2 M2 _ m2 w2 => ?_⟩
      have hat : atI (B.map nI ++ [V.int (((xs.length : Nat) : Int) - 1)]) ((j : Int) + 1) = some (.int (e : Int)) := by
        have h1 : B.map nI ++ [V.int (((xs.length : Nat) : Int) - 1)] = (B ++ [ss.length]).map nI := by
          rw [List.map_append]
          congr 1
          show [V.int _] = [V.int _]
          congr 2
          omega
        rw [h1, show (j : Int) + 1 = ((j + 1 : Nat) : Int) by omega]
        refine atI_nat ?_
        rw [List.getElem?_map, ee]
        rfl
      refine ⟨_, rfl, _, _, rfl, rfl, q2, _, _, _, rfl, rfl, SqL.of w2, hat, ?_⟩
      have m12 := m1.trans' m2
      -- piece
      refine ⟨_, rfl, _, rfl, _, rfl, _, rfl, _, _, rfl, rfl, _, rfl, r, xs, rfl, SqL.same m12 hs1, fun pq M3 hpq m3 e3 => ?_⟩
      have ecut : cutV xs (some ((b : Nat) : Int)) (some (((e : Nat) : Int) + 1)) = (xs.drop b).take (e + 1 - b) := by
        rw [show ((e : Nat) : Int) + 1 = ((e + 1 : Nat) : Int) by omega]
        exact cut_both (α := Unit) (by omega) (by omega)
      have e3 : M3 pq = some (.lst (cutV xs (some ((b : Nat) : Int)) (some (((e : Nat) : Int) + 1)))) := e3
      rw [ecut] at e3
      have m13 := m12.trans' m3
      have gM := gL1.trans' m13
      have lseg : HasL K M3 ((seg rs b e).map ptD) ((xs.drop b).take (e + 1 - b)) := by
        unfold seg
        rw [List.map_take, List.map_drop]
        exact HasL.take (HasL.drop (HasL.same gM hp))
      have hpqH : H pq = none := (gL1.trans' m12).none hpq
      have npq : pq ≠ pp := fun z => by rw [z, m12 _ _ epp1] at hpq; cases hpq
      have eps3 := m13 _ _ eps1
      have ecu3 := m13 _ _ ecu1
      have epp3 := m13 _ _ epp1
      have rw3 := rw1.same m13
      have rwB := rw1.same m12
      have nsd : psd ≠ pq := fun z => by rw [← z, m12 _ _ eps1] at hpq; cases hpq
      have ncd : pcu ≠ pq := fun z => by rw [← z, m12 _ _ ecu1] at hpq; cases hpq
      have zacc : acc.length ≤ j := by
        rw [rw1.len, List.length_take]
        omega
      clear eps1 ecu1 epp1 rw1 w1 w2 hs1
      dsimp only [gName]
      refine if_split (fun σ' L' => ∃ ys, σ' = [some (.ref r), some (.int g), some (.int j), some (.ref psd), some (.ref pcu), some (.int lie0), v6, some (.ref pp), some (.int b), some (.int e), some (.ref pq)] ∧ Same H L' ∧ L' psd = some (.lst (ss.map V.int)) ∧ L' pcu = some (.lst (B.map nI)) ∧ L' pp = some (.lst acc) ∧ Rows2 K H L' ((pm (fPc rs ss) (B ++ [ss.length])).take j) acc (fun q => q = pp) ∧ L' pq = some (.lst ys) ∧ HasL K L' ((fPc rs ss b e).map ptD) ys) ?_ ?_
      · rintro σ' L' ⟨ys, rfl, gL', eps', ecu', epp', rw', epq', lpq'⟩
        refine ⟨_, rfl, .inl ⟨rfl, _, SqL.of epp'⟩, _, rfl, pp, acc, _, rfl, rfl, epp', (by show _ < 2 ^ 24; omega), fun L2 put => ?_⟩
        have tc := put.t epp' rfl
        refine ⟨_, _, _, _, _, rfl, fun a o e => put.keep (gL' _ _ e) (ne_of_none e hppH), put.keep eps' npd, put.keep ecu' npc, put.at_, ?_⟩
        rw [List.take_add_one, hpm]
        exact (rw'.put rfl put epp' rfl).snoc (q := pq) (xs := ys) npq hpqH (put.keep epq' npq) (HasL.tsame tc (pts_t _) lpq')
      · intro rest
        refine ⟨_, rfl, _, rfl, _, rfl, _, rfl, _, rfl, _, rfl, psd, _, rfl, SqL.of eps3, fun pv' M4 _ m4 e4 => ?_⟩
        have ecut2 : cutV (ss.map V.int) (some ((b : Nat) : Int)) (some ((e : Nat) : Int)) = (slI ss b e).map V.int := by
          rw [cut_both (α := Unit) (by rw [List.length_map]; omega) (by rw [List.length_map]; omega), slI, List.map_take, List.map_drop]
        have e4 : M4 pv' = some (.lst (cutV (ss.map V.int) (some ((b : Nat) : Int)) (some ((e : Nat) : Int)))) := e4
        rw [ecut2] at e4
        refine ⟨pv', _, rfl, .inl (SqL.of e4), rfl, flat_ints _, _, rfl, ?_⟩
        rw [inV_int]
        refine iteB (fun hb => ?_) (fun hb => ?_)
        · have hin : (-1) ∈ slI ss b e := by simpa using hb
          refine ⟨_, rfl, .inl ⟨rfl, _, SqL.of (m4 _ _ e3)⟩, pq, _, rfl, rfl, m4 _ _ e3, ?_⟩
          have put : Put M4 pq (.lst ((xs.drop b).take (e + 1 - b)).reverse) (upd M4 pq (.lst ((xs.drop b).take (e + 1 - b)).reverse)) := Put.up
          have tc := put.t (m4 _ _ e3) rfl
          refine rest _ _ ⟨_, rfl, fun a o ea => put.keep ((gM.trans' m4) _ _ ea) (ne_of_none ea hpqH), put.keep (m4 _ _ eps3) nsd, put.keep (m4 _ _ ecu3) ncd, put.keep (m4 _ _ epp3) npq.symm, ⟨rw3.len, fun j' v s a b' => ?_⟩, put.at_, ?_⟩
          · obtain ⟨q', ys, z1, z2, z3, z4, z5⟩ := rwB.it j' v s a b'
            have nq : q' ≠ pq := fun z => by rw [z, hpq] at z4; cases z4
            exact ⟨q', ys, z1, z2, z3, put.keep ((m3.trans' m4) _ _ z4) nq, HasL.tsame tc (pts_t _) (HasL.same (m3.trans' m4) z5)⟩
          · rw [fPc, if_pos hin, List.map_reverse]
            exact HasL.reverse (HasL.tsame tc (pts_t _) (HasL.same m4 lseg))
        · have hin : ¬ (-1) ∈ slI ss b e := by simpa using hb
          refine rest _ _ ⟨_, rfl, gM.trans' m4, m4 _ _ eps3, m4 _ _ ecu3, m4 _ _ epp3, rw3.same m4, m4 _ _ e3, ?_⟩
          rw [fPc, if_neg hin]
          exact HasL.same m4 lseg
    · rintro σ L ⟨v2, v8, v9, v10, acc, rfl, gL, eps, ecu, epp, rw2⟩
      rw [List.length_map] at rw2
      rw [List.take_of_length_le (by rw [pm_len, List.length_append]; show _ + 1 - 1 ≤ _; omega)] at rw2
      exact ⟨_, rfl, q pp acc L hppH gL epp rw2⟩
end
end Mp

namespace Mp
open PySem L2
/-! ### runs: each is a list of steps -/
def kP (p : Int × Int) : List Key := kI [p.1, p.2]
theorem kP_V (p : Int × Int) : (kP p).map kV = [V.int p.1, .int p.2] := kI_V _
structure WtOk (kvs : List (List Key × V)) (ps : List (Int × Int)) : Prop where
  ks : kvs.map (·.1) = ps.map kP
  bl : ∀ kv ∈ kvs, ∃ b, kv.2 = .bl b
def trueN (kvs : List (List Key × V)) : Nat := (kvs.filter fun kv => decide (kv.2 = .bl true)).length
theorem WtOk.val {kvs : List (List Key × V)} {ps : List (Int × Int)} (h : WtOk kvs ps) (k : List Key) : valV kvs k = none ∨ ∃ b, valV kvs k = some (.bl b) := by
  unfold valV
  cases e : kvs.find? fun kv => decide (kv.1 = k) with
  | none => exact .inl rfl
  | some kv =>
    obtain ⟨b, hb⟩ := h.bl kv (List.mem_of_find?_eq_some e)
    exact .inr ⟨b, by show some kv.2 = _; rw [hb]⟩
theorem putK_at {kvs : List (List Key × V)} {k : List Key} {u v : V} (h : valV kvs k = some u) : putK kvs k v = kvs.map (fun kv => if kv.1 = k then (kv.1, v) else kv) := by
  unfold putK
  rw [if_pos (by rw [valV_any, h]; rfl)]
theorem WtOk.put {kvs : List (List Key × V)} {ps : List (Int × Int)} (h : WtOk kvs ps) {k : List Key} {u : V} {b : Bool} (hu : valV kvs k = some u) : WtOk (putK kvs k (.bl b)) ps := by
  rw [putK_at hu]
  refine ⟨?_, fun kv hkv => ?_⟩
  · rw [List.map_map, ← h.ks]
    refine List.map_congr_left fun kv _ => ?_
    show (if kv.1 = k then (kv.1, V.bl b) else kv).1 = kv.1
    split <;> rfl
  · obtain ⟨kv', h1, rfl⟩ := List.mem_map.mp hkv
    split
    · exact ⟨b, rfl⟩
    · exact h.bl kv' h1
theorem len_put {kvs : List (List Key × V)} {k : List Key} {u v : V} (hu : valV kvs k = some u) : (putK kvs k v).length = kvs.length := by rw [putK_at hu, List.length_map]
theorem trueN_le (k : List Key) : ∀ kvs : List (List Key × V), trueN (kvs.map (fun kv => if kv.1 = k then (kv.1, V.bl false) else kv)) ≤ trueN kvs
  | [] => Nat.le_refl _
  | kv :: r => by
    have := trueN_le k r
    unfold trueN at this ⊢
    rw [List.map_cons, List.filter_cons, List.filter_cons]
    by_cases e : kv.1 = k
    · rw [if_pos e, if_neg (by simp)]
      split
      · exact Nat.le_succ_of_le this
      · exact this
    · rw [if_neg e]
      split
      · exact Nat.succ_le_succ this
      · exact this
theorem trueN_lt (k : List Key) : ∀ kvs : List (List Key × V), valV kvs k = some (.bl true) → trueN (kvs.map (fun kv => if kv.1 = k then (kv.1, V.bl false) else kv)) < trueN kvs
  | [], h => by cases h
  | kv :: r, h => by
    by_cases e : kv.1 = k
    · have e2 : kv.2 = .bl true := by
        unfold valV at h
        rw [List.find?_cons, decide_eq_true e] at h
        exact Option.some.inj h
      have := trueN_le k r
      unfold trueN at this ⊢
      rw [List.map_cons, List.filter_cons, List.filter_cons, if_pos e, if_neg (by simp), if_pos (decide_eq_true e2)]
      exact Nat.lt_succ_of_le this
    · have hr : valV r k = some (.bl true) := by
        unfold valV at h ⊢
        rw [List.find?_cons, decide_eq_false e] at h
        exact h
      have := trueN_lt k r hr
      unfold trueN at this ⊢
      rw [List.map_cons, List.filter_cons, List.filter_cons, if_neg e]
      split
      · exact Nat.succ_lt_succ this
      · exact this
theorem trueN_all (kvs : List (List Key × V)) : trueN kvs ≤ kvs.length := List.length_filter_le _ _
/-- all but p as it was -/
def But (p : Addr) (H H' : Hp) : Prop := ∀ b o, H b = some o → b ≠ p → H' b = some o
theorem But.t {p : Addr} {H H' : Hp} {o : HO} (h : But p H H') (e : H p = some o) (ht : isT o = false) : TSame H H' := fun b u eb t => h b u eb fun z => by
  subst z
  rw [e] at eb
  cases eb
  rw [ht] at t
  cases t
theorem But.trans {p : Addr} {H H1 H2 : Hp} (h : But p H H1) (g : But p H1 H2) : But p H H2 := fun b o e n => g b o (h b o e n) n
theorem But.same {p : Addr} {H H' : Hp} (h : Same H H') : But p H H' := fun b o e _ => h b o e
theorem road_one (p : Int × Int) : Road [p] [] := ⟨rfl, fun i h => by simp at h, fun i h => by simp at h⟩
theorem road_snoc {rs : List (Int × Int)} {ds : List Nat} {pre : List (Int × Int)} {p : Int × Int} {d : Nat} (h : Road rs ds) (e : rs = pre ++ [p]) (hd : d < 8) : Road (rs ++ [(p.1 + dx d, p.2 + dy d)]) (ds ++ [d]) := by
  have hl := h.len
  have hp : pre.length = ds.length := by
    rw [e, List.length_append] at hl
    exact Nat.succ.inj hl
  have atr : ∀ i, i < rs.length → (rs ++ [(p.1 + dx d, p.2 + dy d)]).getD i (0, 0) = rs.getD i (0, 0) := fun i hi => by
    rw [List.getD_eq_getElem?_getD, List.getD_eq_getElem?_getD, List.getElem?_append_left hi]
  have atd : ∀ i, i < ds.length → (ds ++ [d]).getD i 0 = ds.getD i 0 := fun i hi => by
    rw [List.getD_eq_getElem?_getD, List.getD_eq_getElem?_getD, List.getElem?_append_left hi]
  have lastd : (ds ++ [d]).getD ds.length 0 = d := by
    rw [List.getD_eq_getElem?_getD, List.getElem?_append_right (Nat.le_refl _), Nat.sub_self]
    rfl
  refine ⟨by rw [List.length_append, List.length_append, hl]; rfl, fun i hi => ?_, fun i hi => ?_⟩
  · by_cases c : i < ds.length
    · rw [atd i c]
      exact h.d8 i c
    · have : i = ds.length := by rw [List.length_append] at hi; have : i < ds.length + 1 := hi; omega
      subst this
      rw [lastd]
      exact hd
  · by_cases c : i < ds.length
    · rw [atd i c, atr i (by omega), atr (i + 1) (by omega)]
      exact h.go i c
    · have : i = ds.length := by rw [List.length_append] at hi; have : i < ds.length + 1 := hi; omega
      subst this
      have e1 : rs.getD ds.length (0, 0) = p := by
        rw [e, List.getD_eq_getElem?_getD, List.getElem?_append_right (by omega), hp, Nat.sub_self]
        rfl
      rw [lastd, atr ds.length (by omega), e1, List.getD_eq_getElem?_getD, List.getElem?_append_right (by omega), show ds.length + 1 - rs.length = 0 by omega]
      rfl
def spNext (K : PySem.W.Frag) : Sp := fun vs H Q _ => ∃ (pt tt wd : Addr) (x y d : Int) (ts : List Int) (kvs : List (List Key × V)) (ps : List (Int × Int)), vs = [.ref pt, .int d, .ref tt, .ref wd] ∧ SqT K H pt [.int x, .int y] ∧ SqT K H tt (ts.map V.int) ∧ H wd = some (.dT kvs) ∧ WtOk kvs ps ∧
  (∀ H', Same H H' → Q .non H') ∧ ∀ (e : Nat) (H' : Hp), Same H H' → e < 8 → valV kvs (kP (x + dx e, y + dy e)) = some (.bl true) → Q (.int (e : Int)) H'
def spRunFrom (K : PySem.W.Frag) : Sp := fun vs H Q _ => ∃ (pt wd : Addr) (x y : Int) (kvs : List (List Key × V)) (ps : List (Int × Int)), vs = [.ref pt, .ref wd] ∧ H pt = some (.tup [.int x, .int y]) ∧ H wd = some (.dT kvs) ∧ WtOk kvs ps ∧ valV kvs (kP (x, y)) = some (.bl true) ∧ kvs.length ≤ 1000 ∧
  ∀ (r : Addr) (acc : List V) (rs : List (Int × Int)) (ds : List Nat) (kvs' : List (List Key × V)) (H' : Hp), H r = none → But wd H H' → H' wd = some (.dT kvs') → WtOk kvs' ps → kvs'.length = kvs.length → H' r = some (.lst acc) → HasL K H' (rs.map ptD) acc → Road rs ds → rs.length ≤ 1000 → Q (.ref r) H'
def spClosed (K : PySem.W.Frag) : Sp := fun vs H Q _ => ∃ (r : Addr) (acc : List V) (rs : List (Int × Int)) (ds : List Nat), vs = [.ref r] ∧ H r = some (.lst acc) ∧ HasL K H (rs.map ptD) acc ∧ Road rs ds ∧ rs.length ≤ 1000 ∧
  (∀ H', Same H H' → Q (.ref r) H') ∧ ∀ (p : Addr) (acc' : List V) (rs' : List (Int × Int)) (ds' : List Nat) (H' : Hp), H p = none → Same H H' → H' p = some (.lst acc') → HasL K H' (rs'.map ptD) acc' → Road rs' ds' → rs'.length ≤ 1001 → Q (.ref p) H'
section
variable {P : Program} {w : World} {K : PySem.W.Frag} {mg : Str → Option Value} {base : Heap}
theorem scNx : FnScope ["point", "direction", "turns", "waiting", "turn", "onward"] ["point", "direction", "turns", "waiting"] (defScope s_next_direction) := ⟨rfl, rfl, rfl, by decide +kernel, rfl, by decide +kernel, by decide +kernel⟩
set_option maxHeartbeats 1000000 in
theorem ok_next {f : Addr} {fd : FuncData} (F : Fun K "next_direction" "next_direction" s_next_direction f fd) (T : Txt mg) (G_stepped : Cal P w K mg base 1 "stepped" ["corner", "direction", "many"] (spStepped K)) : FnOk P w K mg base CX0 2 f fd ["point", "direction", "turns", "waiting"] (spNext K) := by
  refine F.ok scNx (fun vs H Q E h => ?_) (fun cdv A outer s H vs Q E hr h => ?_)
  · obtain ⟨pt, tt, wd, x, y, d, ts, kvs, ps, rfl, _⟩ := h
    rfl
  obtain ⟨pt, tt, wd, x, y, d, ts, kvs, ps, rfl, hpt, htt, hwd, hW, q1, q2⟩ := h
  have sc := @scNx
  have hu := hu_of hr
  refine ⟨_, (@pss_cons _ _ _ _ _ (@ps_for _ _ _ _ _ _ _ _ PassesOwn.never rfl (@pi_seq _ _ _ _ (pv 2)) (pg_name (i := 4) sc.nd rfl (Or.inl rfl)) (@pss_cons _ _ _ _ _ (@ps_set _ _ 5 _ _ _ _ sc.nd rfl (Or.inl rfl) (@pe_op _ _ _ _ _ _ _ _ op_mod (@pe_op _ _ _ _ _ _ _ _ op_add (pv 1) (pv 4)) pe_int) (by rfl) (Or.inl rfl)) (@pss_one _ _ _ (@ps_if _ _ _ _ _ _ _ _ (pt_val (pe_dget2 hu (pv 3) (@pe_def _ _ _ _ _ _ _ _ _ _ _ G_stepped hr (by rfl) (@pa_cons _ _ _ _ _ (pv 0) (@pa_cons _ _ _ _ _ (pv 5) (@pa_cons _ _ _ _ _ pe_int pa_nil (by rfl)) (by rfl)) (by rfl)) (by omega) (by decide) (by rfl) (by rfl)) pe_bl ⟨rfl, rfl, rfl, rfl⟩)) (@pss_one _ _ _ (@ps_ret _ _ _ _ (pv 5))) pss_nil))) (by intro _; rfl)) (@pss_one _ _ _ (@ps_ret _ _ _ _ pe_non))), ?_⟩
  refine ⟨_, rfl, true, tt, _, rfl, htt, for_sq (K := K) (b := true) (a := tt) (xs := ts.map V.int) (fun i σ L => ∃ (v4 v5 : Option V), σ = [some (.ref pt), some (.int d), some (.ref tt), some (.ref wd), v4, v5] ∧ Same H L) ⟨none, none, rfl, .rfl'⟩ (fun i σ L _ ⟨_, _, _, z⟩ => SqT.same z htt) ?_ ?_⟩
  · rintro i v σ L hv ⟨v4, v5, rfl, gL⟩
    rw [List.getElem?_map] at hv
    obtain ⟨tn, ht, rfl⟩ : ∃ b, ts[i]? = some b ∧ v = .int b := by
      cases hh : ts[i]? with
      | none => rw [hh] at hv; cases hv
      | some y => rw [hh] at hv; exact ⟨y, rfl, (Option.some.inj hv).symm⟩
    refine ⟨_, rfl, _, rfl, _, _, rfl, rfl, _, _, rfl, rfl, (by show (0 : Int) < 8; decide), ?_⟩
    have h0 : 0 ≤ (d + tn) % 8 := Int.emod_nonneg _ (by decide)
    have h8 : (d + tn) % 8 < 8 := Int.emod_lt_of_pos _ (by decide)
    obtain ⟨e, ee, he⟩ : ∃ e : Nat, (d + tn) % 8 = (e : Int) ∧ e < 8 := ⟨((d + tn) % 8).toNat, by omega, by omega⟩
    show gName 5 (V.int ((d + tn) % 8)) _ _ _
    rw [ee]
    refine ⟨_, rfl, wd, rfl, .inr ⟨_, .inl (gL _ _ hwd)⟩, ?_⟩
    refine ⟨_, rfl, _, rfl, true, pt, x, y, (e : Int), 1, rfl, SqT.same gL hpt, by omega, by omega, fun pk L1 hpk g1 ek => ?_⟩
    rw [Int.toNat_natCast, Int.mul_one, Int.mul_one] at ek
    have ek' : L1 pk = some (.tup ((kP (x + dx e, y + dy e)).map kV)) := by rw [kP_V]; exact ek
    refine ⟨_, DGet.t (k := kP (x + dx e, y + dy e)) (g1 _ _ (gL _ _ hwd)) ek', ?_⟩
    rcases hW.val (kP (x + dx e, y + dy e)) with hn | ⟨b, hb⟩
    · rw [hn]
      exact ⟨_, rfl, iteBF rfl ⟨_, _, rfl, gL.trans' g1⟩⟩
    · rw [hb]
      cases b with
      | true => exact ⟨_, rfl, iteBT rfl ⟨_, rfl, q2 e L1 (gL.trans' g1) he hb⟩⟩
      | false => exact ⟨_, rfl, iteBF rfl ⟨_, _, rfl, gL.trans' g1⟩⟩
  · rintro σ L ⟨v4, v5, rfl, gL⟩
    exact q1 L gL
theorem scCl : FnScope ["run", "lead"] ["run"] (defScope s_closed) := ⟨rfl, rfl, rfl, by decide +kernel, rfl, by decide +kernel, by decide +kernel⟩
theorem ok_closed {f : Addr} {fd : FuncData} (F : Fun K "closed" "closed" s_closed f fd) (T : Txt mg) (G_straight : Cal P w K mg base 2 "straight" ["one", "other"] (spStraight K)) : FnOk P w K mg base CX0 3 f fd ["run"] (spClosed K) := by
  refine F.ok scCl (fun vs H Q E h => ?_) (fun cdv A outer s H vs Q E hr h => ?_)
  · obtain ⟨r, acc, rs, ds, rfl, _⟩ := h
    rfl
  obtain ⟨r, acc, rs, ds, rfl, hr1, hl, hR, hlen, q1, q2⟩ := h
  have sc := @scCl
  have hrl := hR.len
  obtain ⟨pre, p, epre⟩ : ∃ pre p, rs = pre ++ [p] := ⟨rs.dropLast, rs.getLast (fun z => by rw [z] at hrl; cases hrl), (List.dropLast_concat_getLast _).symm⟩
  have hl' := hl
  rw [epre] at hl'
  obtain ⟨al, atl, sl⟩ := hasL_last hl'
  obtain ⟨a0, at0, s0⟩ := pt_atN hl (m := 0) (by omega)
  refine ⟨_, (@pss_cons _ _ _ _ _ (@ps_set _ _ 1 _ _ _ _ sc.nd rfl (Or.inl rfl) (@pe_def _ _ _ _ _ _ _ _ _ _ _ G_straight hr (by rfl) (@pa_cons _ _ _ _ _ (@pe_ix _ _ _ _ _ _ _ ix_list (pv 0) (@pe_un _ _ _ _ _ _ un_neg pe_int) (fun _ _ => rfl)) (@pa_cons _ _ _ _ _ (@pe_ix _ _ _ _ _ _ _ ix_list (pv 0) pe_int (fun _ _ => rfl)) pa_nil (by rfl)) (by rfl)) (by omega) (by decide) (by rfl) (by rfl)) (by rfl) (Or.inl rfl)) (@pss_cons _ _ _ _ _ (@ps_if _ _ _ _ _ _ _ _ (PW.pt (pw_and (@pt_cmpR _ _ _ _ _ _ _ _ op_gt (@pe_callB _ _ _ _ _ _ _ _ _ call_lenA (by rfl) T.len (by decide +kernel) (@pa_cons _ _ _ _ _ (pv 0) pa_nil (by rfl)) (by decide) (by decide) (by rfl) (by rfl)) pe_int (nomark _)) (pw_and (pt_cmp (pc_notN (pv 1))) (pw_and1 (@pt_cmpR _ _ _ _ _ _ _ _ op_eq (@pe_ix _ _ _ _ _ _ _ ix_G (pv 1) pe_int (fun _ _ => rfl)) pe_int (nomark _)))))) (@pss_one _ _ _ (@ps_ret _ _ _ _ (@pe_op _ _ _ _ _ _ _ _ op_catA (pv 0) (@pe_slice _ _ _ _ _ _ _ _ _ _ sl_listA (pv 0) po_none (po_some pe_int))))) pss_nil) (@pss_one _ _ _ (@ps_ret _ _ _ _ (pv 0))))), ?_⟩
  refine ⟨_, rfl, _, rfl, r, _, _, _, rfl, rfl, SqL.of hr1, atl, _, rfl, r, _, _, _, rfl, rfl, SqL.of hr1, at0, true, true, al, a0, _, _, _, _, rfl, sl, s0, fun o v H1 ho g1 hv => ?_⟩
  refine ⟨_, rfl, false, r, acc, rfl, SqL.of (g1 _ _ hr1), _, _, rfl, rfl, _, rfl, iteB (fun hb => ?_) (fun hb => ⟨_, rfl, q1 H1 g1⟩)⟩
  cases o with
  | none =>
    rw [dirD, Has] at hv
    subst hv
    exact ⟨_, rfl, _, rfl, iteBF (by simp) ⟨_, rfl, q1 H1 g1⟩⟩
  | some d =>
    rw [dirD, Has] at hv
    obtain ⟨a, ys, rfl, hs, hy⟩ := hv
    have ey := ints_hasL (ns := [(d : Int), ma ((rs.getD 0 (0, 0)).1 - p.1) ((rs.getD 0 (0, 0)).2 - p.2)]) hy
    subst ey
    refine ⟨_, rfl, _, rfl, iteBT (by simp) ⟨_, rfl, true, a, _, _, _, rfl, rfl, hs, atI_nat (j := 1) rfl, rfl, _, rfl, iteB (fun hc => ?_) (fun hc => ⟨_, rfl, q1 H1 g1⟩)⟩⟩
    have hm : ma ((rs.getD 0 (0, 0)).1 - p.1) ((rs.getD 0 (0, 0)).2 - p.2) = 1 := by simpa using hc
    obtain ⟨hd8, _, ha, hb'⟩ := ho
    rw [hm, Int.one_mul] at ha hb'
    have e0 : rs.getD 0 (0, 0) = (p.1 + dx d, p.2 + dy d) := Prod.ext (by show _ = p.1 + dx d; omega) (by show _ = p.2 + dy d; omega)
    refine ⟨_, rfl, _, rfl, _, rfl, r, acc, rfl, SqL.of (g1 _ _ hr1), fun pz H2 _ g2 e2 => ?_⟩
    have ecut : cutV acc none (some 1) = acc.take 1 := by
      unfold cutV
      have := HT.sIx_nat acc.length acc.length 1
      rw [HT.sIx_none, show (some (1 : Int)) = some ((1 : Nat) : Int) from rfl, this, List.drop_zero]
      have : acc.length = rs.length := by rw [← hl.len, List.length_map]
      congr 1
      omega
    rw [ecut] at e2
    have zacc : acc.length = rs.length := by rw [← hl.len, List.length_map]
    refine ⟨r, pz, acc, acc.take 1, rfl, rfl, (g1.trans' g2) _ _ hr1, e2, (by show _ ≤ 2 ^ 24; rw [List.length_take]; omega), fun pw H3 hpw g3 e3 => ?_⟩
    have gg := g1.trans' (g2.trans' g3)
    refine q2 pw _ (rs ++ [(p.1 + dx d, p.2 + dy d)]) _ H3 ((g1.trans' g2).none hpw) gg e3 ?_ (road_snoc hR epre hd8) (by rw [List.length_append]; show _ + 1 ≤ _; omega)
    rw [List.map_append, ← e0]
    refine HasL.append (HasL.same gg hl) ?_
    have h1 := HasL.take (n := 1) (HasL.same gg hl)
    have e1 : (rs.map ptD).take 1 = [rs.getD 0 (0, 0)].map ptD := by
      cases rs with
      | nil => cases hrl
      | cons a b => rfl
    rw [e1] at h1
    exact h1
end
end Mp

namespace Mp
open PySem L2
def spRuns (K : PySem.W.Frag) : Sp := fun vs H Q _ => ∃ (p : Addr) (xs : List V) (ps : List (Int × Int)), vs = [.ref p] ∧ H p = some (.lst xs) ∧ xs.length = ps.length ∧ (∀ (i : Nat) (v : V) (q : Int × Int), xs[i]? = some v → ps[i]? = some q → ∃ b, v = .ref b ∧ H b = some (.tup [.int q.1, .int q.2])) ∧ ps.length ≤ 1000 ∧
  ∀ (r : Addr) (acc : List V) (rss : List (List (Int × Int))) (H' : Hp), H r = none → Same H H' → H' r = some (.lst acc) → Rows2 K H H' rss acc (fun q => q = r) → (∀ rs ∈ rss, ∃ ds, Road rs ds ∧ rs.length ≤ 1001) → rss.length ≤ 1000 → Q (.ref r) H'
def kvP (p : Int × Int) : List Key × V := (kP p, .bl true)
theorem paired_snoc {α β : Type} {F : α → β → Prop} : ∀ {l : List α} {m : List β} {a : α} {b : β}, Paired F l m → F a b → Paired F (l ++ [a]) (m ++ [b])
  | _, _, _, _, .nil, h => .cons h .nil
  | _, _, _, _, .cons f t, h => .cons f (paired_snoc t h)
theorem putKs_wt (ps : List (Int × Int)) : ∃ ps', WtOk (putKs (ps.map kvP)) ps' ∧ (putKs (ps.map kvP)).length ≤ ps.length := by
  have gen : ∀ (qs : List (Int × Int)) (acc : List (List Key × V)) (ps0 : List (Int × Int)), WtOk acc ps0 → ∃ ps', WtOk ((qs.map kvP).foldl (fun a x => putK a x.1 x.2) acc) ps' := fun qs => by
    induction qs with
    | nil => exact fun acc ps0 h => ⟨ps0, h⟩
    | cons q r ih =>
      intro acc ps0 h
      rw [List.map_cons, List.foldl_cons]
      rcases h.val (kP q) with hn | ⟨b, hb⟩
      · refine ih _ (ps0 ++ [q]) ?_
        show WtOk (putK acc (kP q) (.bl true)) _
        rw [putK_new _ hn]
        refine ⟨by rw [List.map_append, List.map_append, h.ks]; rfl, fun kv hkv => ?_⟩
        rcases List.mem_append.mp hkv with z | z
        · exact h.bl kv z
        · rw [List.mem_singleton.mp z]
          exact ⟨true, rfl⟩
      · exact ih _ ps0 (h.put (b := true) hb)
  obtain ⟨ps', h⟩ := gen ps [] [] ⟨rfl, fun kv hkv => by simp at hkv⟩
  refine ⟨ps', h, ?_⟩
  have := putKs_len (ps.map kvP)
  rw [List.length_map] at this
  exact this
theorem WtOk.there {kvs : List (List Key × V)} {ps : List (Int × Int)} (h : WtOk kvs ps) {p : Int × Int} (hp : p ∈ ps) : ∃ b, valV kvs (kP p) = some (.bl b) := by
  rcases h.val (kP p) with hn | hb
  · have h1 : (kvs.any fun kv => decide (kv.1 = kP p)) = true := by
      have : kP p ∈ kvs.map (·.1) := by rw [h.ks]; exact List.mem_map_of_mem hp
      obtain ⟨kv, h2, h3⟩ := List.mem_map.mp this
      exact List.any_eq_true.mpr ⟨kv, h2, decide_eq_true h3⟩
    rw [valV_any, hn] at h1
    cases h1
  · exact hb
theorem asg_split {e : TE} {g : TG} {S2 : TS} {D : Ends} {σ : St} {H : Hp} (R : St → Hp → Prop) (h2 : ∀ σ' H', R σ' H' → S2 D σ' H') (h1 : (∀ σ' H', R σ' H' → S2 D σ' H') → tAsg e g { D with nx := S2 D } σ H) : tSeq (tAsg e g) S2 D σ H := h1 h2
/-- the loop of a run -/
def RunIv (K : PySem.W.Frag) (H : Hp) (pt wd ro : Addr) (ps : List (Int × Int)) (n : Nat) (m : Nat) (σ : St) (L : Hp) : Prop := ∃ (acc : List V) (pre : List (Int × Int)) (p : Int × Int) (ds : List Nat) (kv : List (List Key × V)) (dv : V), m = trueN kv ∧ σ = [some (V.ref pt), some (.ref wd), some (.ref ro), some dv] ∧ But wd H L ∧ L wd = some (.dT kv) ∧ WtOk kv ps ∧ kv.length = n ∧ L ro = some (.lst acc) ∧ HasL K L ((pre ++ [p]).map ptD) acc ∧ Road (pre ++ [p]) ds ∧ pre.length + 1 + trueN kv ≤ 1000 ∧ (dv = .non ∨ ∃ e : Nat, e < 8 ∧ dv = .int (e : Int) ∧ valV kv (kP (p.1 + dx e, p.2 + dy e)) = some (.bl true))
section
variable {P : Program} {w : World} {K : PySem.W.Frag} {mg : Str → Option Value} {base : Heap}
theorem scRf : FnScope ["point", "waiting", "run", "direction"] ["point", "waiting"] (defScope s_run_from) := ⟨rfl, rfl, rfl, by decide +kernel, rfl, by decide +kernel, by decide +kernel⟩
set_option maxHeartbeats 2000000 in
theorem ok_run_from {f a_TURNS a_ANY_TURN : Addr} {fd : FuncData} (F : Fun K "run_from" "run_from" s_run_from f fd) (T : Txt mg) (g_TURNS : mg "TURNS" = some (.ref a_TURNS)) (g_ANY_TURN : mg "ANY_TURN" = some (.ref a_ANY_TURN)) (hT : ∃ ts : List Int, ∀ H : Hp, SqT K H a_TURNS (ts.map V.int)) (hA : ∃ ts : List Int, ∀ H : Hp, SqT K H a_ANY_TURN (ts.map V.int))
    (G_stepped : Cal P w K mg base 1 "stepped" ["corner", "direction", "many"] (spStepped K)) (G_next_direction : Cal P w K mg base 2 "next_direction" ["point", "direction", "turns", "waiting"] (spNext K)) : FnOk P w K mg base CX0 3 f fd ["point", "waiting"] (spRunFrom K) := by
  refine F.ok scRf (fun vs H Q E h => ?_) (fun cdv A outer s H vs Q E hr h => ?_)
  · obtain ⟨pt, wd, x, y, kvs, ps, rfl, _⟩ := h
    rfl
  obtain ⟨pt, wd, x, y, kvs, ps, rfl, hpt, hwd, hW, hv, hkl, q⟩ := h
  have sc := @scRf
  have hu := hu_of hr
  obtain ⟨ts1, hT⟩ := hT
  obtain ⟨ts0, hA⟩ := hA
  refine ⟨_, (@pss_cons _ _ _ _ _ (@ps_set _ _ 2 _ _ _ _ sc.nd rfl (Or.inl rfl) (@pe_lstA _ _ _ _ (@pa_cons _ _ _ _ _ (pv 0) pa_nil (by rfl))) (by rfl) (Or.inl rfl)) (@pss_cons _ _ _ _ _ (ps_dput hu (pv 1) (pv 0) pe_bl rfl) (@pss_cons _ _ _ _ _ (@ps_set _ _ 3 _ _ _ _ sc.nd rfl (Or.inl rfl) (@pe_def _ _ _ _ _ _ _ _ _ _ _ G_next_direction hr (by rfl) (@pa_cons _ _ _ _ _ (pv 0) (@pa_cons _ _ _ _ _ pe_int (@pa_cons _ _ _ _ _ (pe_glob (v := .ref a_ANY_TURN) (by rfl) g_ANY_TURN rfl) (@pa_cons _ _ _ _ _ (pv 1) pa_nil (by rfl)) (by rfl)) (by rfl)) (by rfl)) (by omega) (by decide) (by rfl) (by rfl)) (by rfl) (Or.inl rfl)) (@pss_cons _ _ _ _ _ (ps_while PassesOwn.never (pt_cmp (pc_notN (pv 3))) (@pss_cons _ _ _ _ _ (ps_expr (pe_bm PySem.F.plainAttrs_list PySem.F.slot_list_append PySem.F.type_list_append mt_appendA (pv 2) (@pa_cons _ _ _ _ _ (@pe_def _ _ _ _ _ _ _ _ _ _ _ G_stepped hr (by rfl) (@pa_cons _ _ _ _ _ (@pe_ix _ _ _ _ _ _ _ ix_list (pv 2) (@pe_un _ _ _ _ _ _ un_neg pe_int) (fun _ _ => rfl)) (@pa_cons _ _ _ _ _ (pv 3) (@pa_cons _ _ _ _ _ pe_int pa_nil (by rfl)) (by rfl)) (by rfl)) (by omega) (by decide) (by rfl) (by rfl)) pa_nil (by rfl)))) (@pss_cons _ _ _ _ _ (ps_dput hu (pv 1) (@pe_ix _ _ _ _ _ _ _ ix_list (pv 2) (@pe_un _ _ _ _ _ _ un_neg pe_int) (fun _ _ => rfl)) pe_bl rfl) (@pss_one _ _ _ (@ps_set _ _ 3 _ _ _ _ sc.nd rfl (Or.inl rfl) (@pe_def _ _ _ _ _ _ _ _ _ _ _ G_next_direction hr (by rfl) (@pa_cons _ _ _ _ _ (@pe_ix _ _ _ _ _ _ _ ix_list (pv 2) (@pe_un _ _ _ _ _ _ un_neg pe_int) (fun _ _ => rfl)) (@pa_cons _ _ _ _ _ (pv 3) (@pa_cons _ _ _ _ _ (pe_glob (v := .ref a_TURNS) (by rfl) g_TURNS rfl) (@pa_cons _ _ _ _ _ (pv 1) pa_nil (by rfl)) (by rfl)) (by rfl)) (by rfl)) (by omega) (by decide) (by rfl) (by rfl)) (by rfl) (Or.inl rfl)))))) (@pss_one _ _ _ (@ps_ret _ _ _ _ (pv 2))))))), ?_⟩
  refine ⟨_, rfl, (by show 1 ≤ sizeLine; decide), fun ro H1 hro g1 e1 => ?_⟩
  have nwd : ro ≠ wd := (ne_of_none hwd hro).symm
  have hpt' : H1 pt = some (.tup ((kP (x, y)).map kV)) := by rw [kP_V]; exact g1 _ _ hpt
  refine ⟨_, rfl, _, rfl, wd, _, rfl, DPut.t (k := kP (x, y)) (g1 _ _ hwd) hpt' (by show kvs.length < 2 ^ 24; omega), ?_⟩
  have put0 : Put H1 wd (.dT (putK kvs (kP (x, y)) (.bl false))) (upd H1 wd (.dT (putK kvs (kP (x, y)) (.bl false)))) := Put.up
  revert put0
  generalize upd H1 wd (.dT (putK kvs (kP (x, y)) (.bl false))) = H2
  intro put0
  have hW2 := hW.put (b := false) hv
  have hk2 := len_put (v := .bl false) hv
  have tn2 : trueN (putK kvs (kP (x, y)) (.bl false)) < trueN kvs := by rw [putK_at hv]; exact trueN_lt _ _ hv
  have tna := trueN_all kvs
  have tc := put0.t (g1 _ _ hwd) rfl
  have s2 := SqT.tsame tc (SqT.of (K := K) (g1 _ _ hpt))
  have e2 := put0.keep e1 nwd
  have b2 : But wd H H2 := fun b o e n => put0.keep (g1 _ _ e) n
  have inv : ∀ (dv : V) (L : Hp), Same H2 L → (dv = .non ∨ ∃ e : Nat, e < 8 ∧ dv = .int (e : Int) ∧ valV (putK kvs (kP (x, y)) (.bl false)) (kP (x + dx e, y + dy e)) = some (.bl true)) → ∃ m, RunIv K H pt wd ro ps kvs.length m [some (V.ref pt), some (.ref wd), some (.ref ro), some dv] L := fun dv L g hd =>
    ⟨_, _, [], (x, y), [], _, dv, rfl, rfl, b2.trans (But.same g), g _ _ put0.at_, hW2, hk2, g _ _ e2, hasL_cons (has_pt (SqT.same g s2)) hasL_nil, road_one _, by show 0 + 1 + _ ≤ 1000; omega, hd⟩
  dsimp only
  refine asg_split (fun σ' L' => ∃ m, RunIv K H pt wd ro ps kvs.length m σ' L') ?_ ?_
  · rintro σ' L' hI
    refine ⟨fun m σ L => RunIv K H pt wd ro ps kvs.length m σ L, hI, ?_⟩
    rintro m σ L ⟨acc, pre, p, ds, kv, dv, rfl, rfl, bL, eW, hWk, hkn, ero, lro, hR, hsz, hdv⟩
    rcases hdv with rfl | ⟨e, he, rfl, hval⟩
    · refine ⟨_, rfl, _, rfl, iteBF (by simp) ?_⟩
      exact ⟨_, rfl, q ro acc (pre ++ [p]) ds kv L hro bL eW hWk hkn ero lro hR (by rw [List.length_append]; show _ + 1 ≤ _; omega)⟩
    · refine ⟨_, rfl, _, rfl, iteBT (by simp) ?_⟩
      obtain ⟨al, atl, sl⟩ := hasL_last lro
      have zacc : acc.length = pre.length + 1 := by rw [← lro.len, List.length_map, List.length_append]; rfl
      refine ⟨fun σ' L' => ∃ m', m' < trueN kv ∧ RunIv K H pt wd ro ps kvs.length m' σ' L', fun σ' L' z => z, ?_⟩
      -- the next point
      refine ⟨_, rfl, .inl ⟨rfl, _, SqL.of ero⟩, _, rfl, _, rfl, ro, _, _, _, rfl, rfl, SqL.of ero, atl, _, rfl, true, al, p.1, p.2, (e : Int), 1, rfl, sl, by omega, by omega, fun pn L1 hpn k1 en => ?_⟩
      rw [Int.toNat_natCast, Int.mul_one, Int.mul_one] at en
      have ero1 := k1 _ _ ero
      refine ⟨ro, acc, _, rfl, rfl, ero1, (by show acc.length < 2 ^ 24; omega), fun L2 put => ?_⟩
      have t2 := put.t ero1 rfl
      have en2 := put.keep en (ne_of_none ero hpn).symm
      have eW2 := put.keep (k1 _ _ eW) nwd.symm
      -- it waits no more
      have en2' : L2 pn = some (.tup ((kP (p.1 + dx e, p.2 + dy e)).map kV)) := by rw [kP_V]; exact en2
      refine ⟨_, rfl, _, rfl, _, rfl, ro, _, _, _, rfl, rfl, SqL.of put.at_, atI_last _ _, wd, _, rfl, DPut.t (k := kP (p.1 + dx e, p.2 + dy e)) eW2 en2' (by show kv.length < 2 ^ 24; omega), ?_⟩
      have put3 : Put L2 wd (.dT (putK kv (kP (p.1 + dx e, p.2 + dy e)) (.bl false))) (upd L2 wd (.dT (putK kv (kP (p.1 + dx e, p.2 + dy e)) (.bl false)))) := Put.up
      revert put3
      generalize upd L2 wd (.dT (putK kv (kP (p.1 + dx e, p.2 + dy e)) (.bl false))) = L3
      intro put3
      have t3 := put3.t eW2 rfl
      have hW3 := hWk.put (b := false) hval
      have hk3 := len_put (v := .bl false) hval
      have tn3 : trueN (putK kv (kP (p.1 + dx e, p.2 + dy e)) (.bl false)) < trueN kv := by rw [putK_at hval]; exact trueN_lt _ _ hval
      have sn3 := SqT.tsame t3 (SqT.of (K := K) en2)
      have ero3 := put3.keep put.at_ nwd
      have lro3 : HasL K L3 (((pre ++ [p]) ++ [(p.1 + dx e, p.2 + dy e)]).map ptD) (acc ++ [.ref pn]) := by
        rw [List.map_append]
        exact HasL.append (HasL.tsame (t2.trans t3) (pts_t _) (HasL.same k1 lro)) (hasL_cons (has_pt sn3) hasL_nil)
      have bL3 : But wd H L3 := fun b o eb n => put3.keep (put.keep (k1 _ _ (bL b o eb n)) (ne_of_none eb hro)) n
      have fin : ∀ (dv : V) (M : Hp), Same L3 M → (dv = .non ∨ ∃ e' : Nat, e' < 8 ∧ dv = .int (e' : Int) ∧ valV (putK kv (kP (p.1 + dx e, p.2 + dy e)) (.bl false)) (kP (p.1 + dx e + dx e', p.2 + dy e + dy e')) = some (.bl true)) → ∃ m', m' < trueN kv ∧ RunIv K H pt wd ro ps kvs.length m' [some (V.ref pt), some (.ref wd), some (.ref ro), some dv] M := fun dv M g hd =>
        ⟨_, tn3, _, pre ++ [p], (p.1 + dx e, p.2 + dy e), _, _, dv, rfl, rfl, bL3.trans (But.same g), g _ _ put3.at_, hW3, by rw [hk3]; exact hkn, g _ _ ero3, HasL.same g lro3, road_snoc hR rfl he, by rw [List.length_append]; show _ + 1 + 1 + _ ≤ _; omega, hd⟩
      refine ⟨_, rfl, _, rfl, ro, _, _, _, rfl, rfl, SqL.of ero3, atI_last _ _, _, rfl, _, rfl, pn, a_TURNS, wd, p.1 + dx e, p.2 + dy e, (e : Int), ts1, _, ps, rfl, sn3, hT L3, put3.at_, hW3, fun M g => ?_, fun e' M g he' hv' => ?_⟩
      · exact fin .non M g (.inl rfl)
      · exact fin (.int (e' : Int)) M g (.inr ⟨e', he', rfl, hv'⟩)
  · intro rest
    refine ⟨_, rfl, _, rfl, pt, a_ANY_TURN, wd, x, y, 0, ts0, _, ps, rfl, s2, hA H2, put0.at_, hW2, fun L g => ?_, fun e L g he hval => ?_⟩
    · exact rest _ _ (inv .non L g (.inl rfl))
    · exact rest _ _ (inv (.int (e : Int)) L g (.inr ⟨e, he, rfl, hval⟩))
theorem scRs : FnScope ["points", "found", "point", "waiting"] ["points"] (defScope s_runs) := ⟨rfl, rfl, rfl, by decide +kernel, rfl, by decide +kernel, by decide +kernel⟩
set_option maxHeartbeats 2000000 in
theorem ok_runs {f : Addr} {fd : FuncData} (F : Fun K "runs" "runs" s_runs f fd) (T : Txt mg) (G_run_from : Cal P w K mg base 3 "run_from" ["point", "waiting"] (spRunFrom K)) (G_closed : Cal P w K mg base 3 "closed" ["run"] (spClosed K)) : FnOk P w K mg base CX0 4 f fd ["points"] (spRuns K) := by
  refine F.ok scRs (fun vs H Q E h => ?_) (fun cdv A outer s H vs Q E hr h => ?_)
  · obtain ⟨p, xs, ps, rfl, _⟩ := h
    rfl
  obtain ⟨p, xs, ps, rfl, hp, hxl, hraw, hlen, q⟩ := h
  have sc := @scRs
  have hu := hu_of hr
  have hu20 : (A.deeper (PyProof.Rows.envOfC "runs" (defScope s_runs) s.heap.objs.size f cdv)).units + 20 < cLine := room_deep hr (by omega)
  have nd1 : (["point"] : List Str).Nodup := by decide +kernel
  refine ⟨_, (@pss_cons _ _ _ _ _ (@ps_set _ _ 1 _ _ _ _ sc.nd rfl (Or.inl rfl) (@pe_lstA _ _ _ _ pa_nil) (by rfl) (Or.inl rfl)) (@pss_cons _ _ _ _ _ (@ps_set _ _ 3 _ _ _ _ sc.nd rfl (Or.inl rfl) (@pe_callTy _ _ _ _ _ _ _ _ _ (call_dictP rfl hu20) (by rfl) T.dict (by decide +kernel) (@pa_cons _ _ _ _ _ (@pe_compF _ _ _ _ sc ["point"] [none] nd1 _ _ _ _ _ _ _ _ _ _ (by decide +kernel) (@pi_seq _ _ _ _ (pv 0)) (fun _ _ _ => (pg_name (i := 0) nd1 rfl (Or.inl rfl) (Or.inr rfl))) (fun _ _ _ => pts_nil) (fun _ _ _ => (@pe_tupA _ _ _ _ _ (@pa_cons _ _ _ _ _ (@pe_callTy _ _ _ _ _ _ _ _ _ call_tupleT (by rfl) T.tuple (by decide +kernel) (@pa_cons _ _ _ _ _ (pv 0) pa_nil (by rfl)) (by decide) (by decide) (by rfl) (by rfl)) (@pa_cons _ _ _ _ _ pe_bl pa_nil (by rfl)) (by rfl)))) (by rfl) (by rfl) (by rfl) (by intro _; rfl)) pa_nil (by rfl)) (by decide) (by decide) (by rfl) (by rfl)) (by rfl) (Or.inl rfl)) (@pss_cons _ _ _ _ _ (@ps_for _ _ _ _ _ _ _ _ PassesOwn.never rfl (pi_list (@pe_callB _ _ _ _ _ _ _ _ _ (call_sortedD rfl) (by rfl) T.sorted (by decide +kernel) (@pa_cons _ _ _ _ _ (pv 3) pa_nil (by rfl)) (by decide) (by decide) (by rfl) (by rfl))) (pg_name (i := 2) sc.nd rfl (Or.inl rfl)) (@pss_one _ _ _ (@ps_if _ _ _ _ _ _ _ _ (pt_val (pe_dget hu (pv 3) (pv 2) (fun _ _ => rfl))) (@pss_one _ _ _ (ps_expr (pe_bm PySem.F.plainAttrs_list PySem.F.slot_list_append PySem.F.type_list_append mt_appendA (pv 1) (@pa_cons _ _ _ _ _ (@pe_def _ _ _ _ _ _ _ _ _ _ _ G_closed hr (by rfl) (@pa_cons _ _ _ _ _ (@pe_def _ _ _ _ _ _ _ _ _ _ _ G_run_from hr (by rfl) (@pa_cons _ _ _ _ _ (pv 2) (@pa_cons _ _ _ _ _ (pv 3) pa_nil (by rfl)) (by rfl)) (by omega) (by decide) (by rfl) (by rfl)) pa_nil (by rfl)) (by omega) (by decide) (by rfl) (by rfl)) pa_nil (by rfl))))) pss_nil)) (by intro _; rfl)) (@pss_one _ _ _ (@ps_ret _ _ _ _ (pv 1)))))), ?_⟩
  refine ⟨(by show 0 ≤ sizeLine; decide), fun fo H1 hfo g1 e1 => ?_⟩
  have hp1 := g1 _ _ hp
  refine ⟨_, rfl, false, p, xs, rfl, SqL.of hp1, ?_⟩
  refine comp_any (fun σ' => ∃ z, σ' = [z]) xs.length (by show xs.length < 2 ^ 24; omega) ⟨none, rfl⟩ (fun pl i ac J => Same H1 J ∧ PairsV J ac ((ps.take i).map kvP))
    (fun pl J hpl g e => ⟨g, .nil⟩) (fun pl i ac J ⟨g, _⟩ hi => its_go (b := false) (SqL.of hp1) rfl i J g hi) (fun pl ac J ⟨g, _⟩ => its_stop (b := false) (SqL.of hp1) rfl J g) ?_ ?_
  · rintro s3 H3' fp pl j ac σ' J hpl hj ⟨z, rfl⟩ hla hac ⟨gJ, hpr⟩ v J2 hy Nx Ap _ hA
    obtain ⟨rfl, hv⟩ := its_yld (b := false) (SqL.of hp1) gJ hy
    have hjp : j < ps.length := by omega
    obtain ⟨b, rfl, hb⟩ := hraw j v ps[j] hv (List.getElem?_eq_getElem hjp)
    have hbJ := gJ _ _ (g1 _ _ hb)
    refine gname_yes ?_
    refine ⟨_, rfl, b, _, rfl, SqT.of hbJ, (by show 2 ≤ sizeLine; decide), fun pt J3 hpt g3 e3 => ?_⟩
    refine hA _ _ J3 ⟨_, rfl⟩ (g3 _ _ hac) fun J4 put => ?_
    have tc := put.t (g3 _ _ hac) rfl
    refine ⟨fun a o e => put.keep ((gJ.trans' g3) _ _ e) (ne_of_none e hpl), ?_⟩
    rw [List.take_add_one, List.getElem?_eq_getElem hjp, List.map_append]
    refine paired_snoc (Paired.mapP hpr fun a b ⟨c, d, h1, h2, h3⟩ => ⟨c, d, h1, tc _ _ (g3 _ _ h2) rfl, tc _ _ (g3 _ _ h3) rfl⟩) ⟨pt, b, rfl, tc _ _ e3 rfl, tc _ _ (g3 _ _ ?_) rfl⟩
    show _ = some (HO.tup ((kP ps[j]).map kV))
    rw [kP_V]
    exact hbJ
  intro pl ac H2 hpl _ eac ⟨g2, hpr⟩
  rw [List.take_of_length_le (by omega)] at hpr
  refine ⟨pl, ac, _, rfl, eac, hpr, fun wd H3 hwd g3 e3 => ?_⟩
  obtain ⟨ps', hW, hpl'⟩ := putKs_wt ps
  have g13 := g2.trans' g3
  have ef3 := g13 _ _ e1
  have gH3 := g1.trans' g13
  have nfw : fo ≠ wd := ne_of_none (g2 _ _ e1) hwd
  have hwdH : H wd = none := (g1.trans' g2).none hwd
  refine ⟨_, rfl, wd, _, ps'.map (fun p => [p.1, p.2]), rfl, e3, ?_, fun k hk => ?_, fun zs ls rows perm _ _ pz H4 hpz g4 e4 => ?_⟩
  · rw [hW.ks, List.map_map]
    rfl
  · obtain ⟨p, _, rfl⟩ := List.mem_map.mp hk
    simp
  have npz : pz ≠ wd := (ne_of_none e3 hpz).symm
  have npf : pz ≠ fo := (ne_of_none ef3 hpz).symm
  have hpzH : H pz = none := gH3.none hpz
  have zlen : zs.length ≤ 1000 := by
    have h1 := rows.length
    have h2 := perm.length_eq
    rw [List.length_map] at h2
    have := hpl'
    have hk := congrArg List.length hW.ks
    rw [List.length_map, List.length_map] at hk
    omega
  refine ⟨pz, rfl, ⟨_, SqL.of e4⟩, for_list (K := K) (a := pz) (xs := zs) (fun j σ L => ∃ (v2 : Option V) (kv : List (List Key × V)) (facc : List V) (rss : List (List (Int × Int))), σ = [some (.ref p), some (.ref fo), v2, some (.ref wd)] ∧ Same H L ∧ TSame H3 L ∧ L pz = some (.lst zs) ∧ L wd = some (.dT kv) ∧ WtOk kv ps' ∧ kv.length ≤ 1000 ∧ L fo = some (.lst facc) ∧ Rows2 K H L rss facc (fun q => q = fo) ∧ (∀ rs ∈ rss, ∃ ds, Road rs ds ∧ rs.length ≤ 1001) ∧ facc.length ≤ j)
    ⟨none, _, [], [], rfl, gH3.trans' g4, Same.t g4, e4, g4 _ _ e3, hW, by omega, g4 _ _ ef3, ⟨rfl, fun j v s a => by simp at a⟩, fun rs hrs => by simp at hrs, Nat.le_refl _⟩ (fun j σ L _ ⟨_, _, _, _, _, _, _, z, _⟩ => SqL.of z) ?_ ?_⟩
  · rintro j z σ L hz ⟨v2, kv, facc, rss, rfl, gL, tL, epz, eW, hWk, hkl, ef, rw2, hall, hfl⟩
    have hj : j < zs.length := (List.getElem?_eq_some_iff.mp hz).1
    have hlj : j < ls.length := by rw [← rows.length]; exact hj
    obtain ⟨_, b, rfl, hb⟩ := paired_at2 rows j z ls[j] hz (List.getElem?_eq_getElem hlj)
    obtain ⟨⟨x, y⟩, hxy, exy⟩ := List.mem_map.mp (perm.mem_iff.mp (List.getElem_mem hlj))
    rw [← exy] at hb
    have hbL := tL _ _ hb rfl
    have hbL' : L b = some (.tup ((kP (x, y)).map kV)) := by rw [kP_V]; exact hbL
    obtain ⟨bb, hval⟩ := hWk.there hxy
    refine ⟨_, rfl, _, rfl, wd, _, rfl, by rw [← hval]; exact DGet.t (k := kP (x, y)) eW hbL', _, rfl, ?_⟩
    cases bb with
    | false => exact iteBF rfl ⟨_, kv, facc, rss, rfl, gL, tL, epz, eW, hWk, hkl, ef, rw2, hall, by omega⟩
    | true =>
      refine iteBT rfl ?_
      refine ⟨_, rfl, .inl ⟨rfl, _, SqL.of ef⟩, ?_⟩
      refine ⟨_, rfl, _, rfl, b, wd, x, y, kv, ps', rfl, hbL, eW, hWk, hval, hkl, fun r acc rs ds kv' L1 hr1 bL eW1 hW1 hkl1 er lr hR hrl => ?_⟩
      have gL1 : Same H L1 := fun a o e => bL a o (gL _ _ e) (ne_of_none e hwdH)
      have ef1 := bL _ _ ef nfw
      have tL1 := tL.trans (bL.t eW rfl)
      have rw1 : Rows2 K H L1 rss facc (fun q => q = fo) := ⟨rw2.len, fun j v s a b => by
        obtain ⟨q', ys, z1, z2, z3, z4, z5⟩ := rw2.it j v s a b
        exact ⟨q', ys, z1, z2, z3, bL _ _ z4 (fun z => by rw [z, eW] at z4; cases z4), HasL.tsame (bL.t eW rfl) (pts_t _) z5⟩⟩
      have hrH : H r = none := by
        cases y : H r with
        | none => rfl
        | some u => rw [gL _ _ y] at hr1; cases hr1
      have nrf : r ≠ fo := (ne_of_none ef hr1).symm
      have fin : ∀ (q' : Addr) (acc' : List V) (rs' : List (Int × Int)) (ds' : List Nat) (L2 : Hp), Same L1 L2 → H q' = none → q' ≠ fo → L2 q' = some (.lst acc') → HasL K L2 (rs'.map ptD) acc' → Road rs' ds' → rs'.length ≤ 1001 → ∀ L3, Put L2 fo (.lst (facc ++ [.ref q'])) L3 → ∃ (v2 : Option V) (kv : List (List Key × V)) (facc : List V) (rss : List (List (Int × Int))), [some (.ref p), some (.ref fo), some (.ref b), some (.ref wd)] = [some (.ref p), some (.ref fo), v2, some (.ref wd)] ∧ Same H L3 ∧ TSame H3 L3 ∧ L3 pz = some (.lst zs) ∧ L3 wd = some (.dT kv) ∧ WtOk kv ps' ∧ kv.length ≤ 1000 ∧ L3 fo = some (.lst facc) ∧ Rows2 K H L3 rss facc (fun q => q = fo) ∧ (∀ rs ∈ rss, ∃ ds, Road rs ds ∧ rs.length ≤ 1001) ∧ facc.length ≤ j + 1 := fun q' acc' rs' ds' L2 k2 hq nq eq lq hR' hl' L3 put => by
        have ef2 := k2 _ _ ef1
        have tc := put.t ef2 rfl
        refine ⟨_, kv', _, rss ++ [rs'], rfl, fun a o e => put.keep ((gL1.trans' k2) _ _ e) (ne_of_none e hfo), (tL1.trans (Same.t k2)).trans tc, put.keep (k2 _ _ (bL _ _ epz npz)) npf, put.keep (k2 _ _ eW1) nfw.symm, hW1, by omega, put.at_, ((rw1.same k2).put rfl put ef2 rfl).snoc nq hq (put.keep eq nq) (HasL.tsame tc (pts_t _) lq), fun rs hrs => ?_, by rw [List.length_append]; show _ + 1 ≤ _; omega⟩
        rcases List.mem_append.mp hrs with h | h
        · exact hall rs h
        · rw [List.mem_singleton.mp h]
          exact ⟨ds', hR', hl'⟩
      refine ⟨r, acc, rs, ds, rfl, er, lr, hR, hrl, fun L2 k2 => ?_, fun pw acc' rs' ds' L2 hpw k2 ew lw hR' hl' => ?_⟩
      · exact ⟨fo, facc, _, rfl, rfl, k2 _ _ ef1, (by show _ < 2 ^ 24; omega), fin r acc rs ds L2 k2 hrH nrf (k2 _ _ er) (HasL.same k2 lr) hR (by omega)⟩
      · exact ⟨fo, facc, _, rfl, rfl, k2 _ _ ef1, (by show _ < 2 ^ 24; omega), fin pw acc' rs' ds' L2 k2 (gL1.none hpw) (ne_of_none ef1 hpw).symm ew lw hR' hl'⟩
  · rintro σ L ⟨v2, kv, facc, rss, rfl, gL, tL, epz, eW, hWk, hkl, ef, rw2, hall, hfl⟩
    exact ⟨_, rfl, q fo facc rss L hfo gL ef rw2 hall (by rw [← rw2.len]; omega)⟩
end
end Mp

namespace Mp
open PySem L2
/-! ### drawn points -/
def RawP (H : Hp) (ps : List (Int × Int)) (xs : List V) : Prop := xs.length = ps.length ∧ ∀ (i : Nat) (v : V) (q : Int × Int), xs[i]? = some v → ps[i]? = some q → ∃ b, v = .ref b ∧ H b = some (.tup [.int q.1, .int q.2])
theorem RawP.t {H H' : Hp} {ps : List (Int × Int)} {xs : List V} (h : RawP H ps xs) (g : TSame H H') : RawP H' ps xs := ⟨h.1, fun i v q a b => by
  obtain ⟨c, e, hc⟩ := h.2 i v q a b
  exact ⟨c, e, g _ _ hc rfl⟩⟩
theorem RawP.ins {H : Hp} {ps : List (Int × Int)} {xs : List V} (h : RawP H ps xs) (n : Nat) {c : Addr} {q : Int × Int} (hc : H c = some (.tup [.int q.1, .int q.2])) : RawP H (ps.take n ++ q :: ps.drop n) (xs.take n ++ V.ref c :: xs.drop n) := by
  have hl := h.1
  have tl : (xs.take n).length = (ps.take n).length := by rw [List.length_take, List.length_take, hl]
  refine ⟨by rw [List.length_append, List.length_append, List.length_cons, List.length_cons, List.length_drop, List.length_drop, tl, hl], fun i v q' a b => ?_⟩
  by_cases h1 : i < (xs.take n).length
  · rw [List.getElem?_append_left h1] at a
    rw [List.getElem?_append_left (by omega)] at b
    rw [List.getElem?_take] at a b
    split at a
    · rename_i z
      rw [if_pos z] at b
      exact h.2 i v q' a b
    · cases a
  · rw [List.getElem?_append_right (by omega)] at a
    rw [List.getElem?_append_right (by omega), ← tl] at b
    by_cases h2 : i - (xs.take n).length = 0
    · rw [h2] at a b
      cases a
      cases b
      exact ⟨c, rfl, hc⟩
    · obtain ⟨k, ek⟩ : ∃ k, i - (xs.take n).length = k + 1 := ⟨i - (xs.take n).length - 1, by omega⟩
      rw [ek, List.getElem?_cons_succ, List.getElem?_drop] at a b
      exact h.2 _ v q' a b
def spPoints : Sp := fun vs H Q _ => ∃ (st c : Addr) (cs : List Int) (t : Int), vs = [.ref st] ∧ StAt H st c cs t ∧ 0 ≤ t ∧ t < 2 ^ 39 ∧
  ∀ (p : Addr) (xs : List V) (ps : List (Int × Int)) (cs' : List Int) (t' : Int) (H' : Hp), StAt H' st c cs' t' → t ≤ t' → t' ≤ t + 1000 → Kp st c H H' → H p = none → (p ≠ st ∧ p ≠ c) → H' p = some (.lst xs) → RawP H' ps xs → ps.length ≤ 420 → Q (.ref p) H'
section
variable {P : Program} {w : World} {K : PySem.W.Frag} {mg : Str → Option Value} {base : Heap}
theorem scPo : FnScope ["_law_state", "_law_way", "_law_sizes", "_law_left", "_law_low", "_law_points_here", "_law_x", "_law_y", "_law_edge", "_law_in_it"] ["_law_state"] (defScope s_points) := ⟨rfl, rfl, rfl, by decide +kernel, rfl, by decide +kernel, by decide +kernel⟩
set_option maxHeartbeats 4000000 in
theorem ok_points {f : Addr} {fd : FuncData} (F : Fun K "_law_points" "_law_points" s_points f fd) (T : Txt mg) (G_take : Cal P w K mg base 1 "_law_take" ["_law_state", "_law_many"] spTake) : FnOk P w K mg base CX0 2 f fd ["_law_state"] spPoints := by
  refine F.ok scPo (fun vs H Q E h => ?_) (fun cdv A outer s H vs Q E hr h => ?_)
  · obtain ⟨st, c, cs, t, rfl, _⟩ := h
    rfl
  obtain ⟨st, c, cs, t, rfl, S, t0, t1, q⟩ := h
  have sc := @scPo
  have nd1 : (["_law_turn", "_law_state"] : List Str).Nodup := by decide +kernel
  refine ⟨_, (@pss_cons _ _ _ _ _ (@ps_set _ _ 1 _ _ _ _ sc.nd rfl (Or.inl rfl) (@pe_def _ _ _ _ _ _ _ _ _ _ _ G_take hr (by rfl) (@pa_cons _ _ _ _ _ (pv 0) (@pa_cons _ _ _ _ _ pe_int pa_nil (by rfl)) (by rfl)) (by omega) (by decide) (by rfl) (by rfl)) (by rfl) (Or.inl rfl)) (@pss_cons _ _ _ _ _ (ps_setC sc (i := 2) ["_law_turn", "_law_state"] [none, some 0] nd1 (by decide +kernel) rfl (Or.inl rfl) (pi_range1 (by rfl) T.range (@pa_cons _ _ _ _ _ pe_int pa_nil (by rfl))) (fun _ _ _ => (pg_name (i := 0) nd1 rfl (Or.inl rfl) (Or.inr rfl))) (fun _ _ _ => pts_nil) (fun _ _ _ => (@pe_op _ _ _ _ _ _ _ _ op_add pe_int (@pe_def _ _ _ _ _ _ _ _ _ _ _ G_take hr (by rfl) (@pa_cons _ _ _ _ _ (pv 1) (@pa_cons _ _ _ _ _ (@pe_ix _ _ _ _ _ _ _ ix_list (@pe_lstA _ _ _ _ (@pa_cons _ _ _ _ _ pe_int (@pa_cons _ _ _ _ _ pe_int (@pa_cons _ _ _ _ _ pe_int pa_nil (by rfl)) (by rfl)) (by rfl))) (@pe_def _ _ _ _ _ _ _ _ _ _ _ G_take hr (by rfl) (@pa_cons _ _ _ _ _ (pv 1) (@pa_cons _ _ _ _ _ pe_int pa_nil (by rfl)) (by rfl)) (by omega) (by decide) (by rfl) (by rfl)) (fun _ _ => rfl)) pa_nil (by rfl)) (by rfl)) (by omega) (by decide) (by rfl) (by rfl)))) (by rfl)) (@pss_cons _ _ _ _ _ (ps_par (i := 3) (j := 4) rfl sc.nd rfl rfl (by decide) rfl rfl (@pa_cons _ _ _ _ _ (@pe_op _ _ _ _ _ _ _ _ op_sub (@pe_def _ _ _ _ _ _ _ _ _ _ _ G_take hr (by rfl) (@pa_cons _ _ _ _ _ (pv 0) (@pa_cons _ _ _ _ _ pe_int pa_nil (by rfl)) (by rfl)) (by omega) (by decide) (by rfl) (by rfl)) pe_int) (@pa_cons _ _ _ _ _ (@pe_op _ _ _ _ _ _ _ _ op_sub (@pe_def _ _ _ _ _ _ _ _ _ _ _ G_take hr (by rfl) (@pa_cons _ _ _ _ _ (pv 0) (@pa_cons _ _ _ _ _ pe_int pa_nil (by rfl)) (by rfl)) (by omega) (by decide) (by rfl) (by rfl)) pe_int) pa_nil (by rfl)) (by rfl)) (by rfl)) (@pss_cons _ _ _ _ _ (@ps_set _ _ 5 _ _ _ _ sc.nd rfl (Or.inl rfl) (@pe_lstA _ _ _ _ pa_nil) (by rfl) (Or.inl rfl)) (@pss_cons _ _ _ _ _ (@ps_for _ _ _ _ _ _ _ _ PassesOwn.never rfl (pi_range1 (by rfl) T.range (@pa_cons _ _ _ _ _ (@pe_ix _ _ _ _ _ _ _ ix_list (pv 2) pe_int (fun _ _ => rfl)) pa_nil (by rfl))) (pg_name (i := 6) sc.nd rfl (Or.inl rfl)) (@pss_one _ _ _ (@ps_for _ _ _ _ _ _ _ _ PassesOwn.never rfl (pi_range1 (by rfl) T.range (@pa_cons _ _ _ _ _ (@pe_ix _ _ _ _ _ _ _ ix_list (pv 2) pe_int (fun _ _ => rfl)) pa_nil (by rfl))) (pg_name (i := 7) sc.nd rfl (Or.inl rfl)) (@pss_cons _ _ _ _ _ (@ps_set _ _ 8 _ _ _ _ sc.nd rfl (Or.inl rfl) (pe_or (pe_cmpR op_in_seq (pv 6) (@pe_tupA _ _ _ _ _ (@pa_cons _ _ _ _ _ pe_int (@pa_cons _ _ _ _ _ (@pe_op _ _ _ _ _ _ _ _ op_sub (@pe_ix _ _ _ _ _ _ _ ix_list (pv 2) pe_int (fun _ _ => rfl)) pe_int) pa_nil (by rfl)) (by rfl))) (by with_unfolding_all rfl)) (pe_one (pe_cmpR op_in_seq (pv 7) (@pe_tupA _ _ _ _ _ (@pa_cons _ _ _ _ _ pe_int (@pa_cons _ _ _ _ _ (@pe_op _ _ _ _ _ _ _ _ op_sub (@pe_ix _ _ _ _ _ _ _ ix_list (pv 2) pe_int (fun _ _ => rfl)) pe_int) pa_nil (by rfl)) (by rfl))) (by with_unfolding_all rfl)))) (by rfl) (Or.inl rfl)) (@pss_cons _ _ _ _ _ (@ps_set _ _ 9 _ _ _ _ sc.nd rfl (Or.inl rfl) (@pe_ix _ _ _ _ _ _ _ ix_list (@pe_lstA _ _ _ _ (@pa_cons _ _ _ _ _ pe_bl (@pa_cons _ _ _ _ _ (pv 8) (@pa_cons _ _ _ _ _ (pe_cmpR op_eq (@pe_op _ _ _ _ _ _ _ _ op_mod (@pe_op _ _ _ _ _ _ _ _ op_add (pv 6) (pv 7)) pe_int) pe_int (nomark _)) (@pa_cons _ _ _ _ _ (pe_cmpR op_eq (@pe_op _ _ _ _ _ _ _ _ op_mod (@pe_op _ _ _ _ _ _ _ _ op_sub (pv 6) (pv 7)) pe_int) pe_int (nomark _)) (@pa_cons _ _ _ _ _ (pe_or (pe_cmpR op_eq (@pe_op _ _ _ _ _ _ _ _ op_mod (pv 7) pe_int) pe_int (nomark _)) (pe_one (pe_cmpR op_eq (@pe_op _ _ _ _ _ _ _ _ op_mod (pv 6) pe_int) pe_int (nomark _)))) (@pa_cons _ _ _ _ _ pe_bl (@pa_cons _ _ _ _ _ pe_bl pa_nil (by rfl)) (by rfl)) (by rfl)) (by rfl)) (by rfl)) (by rfl)) (by rfl))) (pv 1) (fun _ _ => rfl)) (by rfl) (Or.inl rfl)) (@pss_cons _ _ _ _ _ (@ps_if _ _ _ _ _ _ _ _ (@pt_cmpR _ _ _ _ _ _ _ _ op_gt (pv 1) pe_int (nomark _)) (@pss_one _ _ _ (@ps_set _ _ 9 _ _ _ _ sc.nd rfl (Or.inl rfl) (pe_cmpR op_gt (@pe_def _ _ _ _ _ _ _ _ _ _ _ G_take hr (by rfl) (@pa_cons _ _ _ _ _ (pv 0) (@pa_cons _ _ _ _ _ (@pe_op _ _ _ _ _ _ _ _ op_sub (pv 1) pe_int) pa_nil (by rfl)) (by rfl)) (by omega) (by decide) (by rfl) (by rfl)) pe_int (nomark _)) (by rfl) (Or.inl rfl))) pss_nil) (@pss_one _ _ _ (@ps_if _ _ _ _ _ _ _ _ (pt_val (pv 9)) (@pss_one _ _ _ (ps_expr (pe_bm PySem.F.plainAttrs_list PySem.F.slot_list_insert PySem.F.type_list_insert mt_insertA (pv 5) (@pa_cons _ _ _ _ _ (@pe_def _ _ _ _ _ _ _ _ _ _ _ G_take hr (by rfl) (@pa_cons _ _ _ _ _ (pv 0) (@pa_cons _ _ _ _ _ (@pe_op _ _ _ _ _ _ _ _ op_add (@pe_callB _ _ _ _ _ _ _ _ _ call_lenA (by rfl) T.len (by decide +kernel) (@pa_cons _ _ _ _ _ (pv 5) pa_nil (by rfl)) (by decide) (by decide) (by rfl) (by rfl)) pe_int) pa_nil (by rfl)) (by rfl)) (by omega) (by decide) (by rfl) (by rfl)) (@pa_cons _ _ _ _ _ (@pe_tupA _ _ _ _ _ (@pa_cons _ _ _ _ _ (@pe_op _ _ _ _ _ _ _ _ op_add (pv 3) (pv 6)) (@pa_cons _ _ _ _ _ (@pe_op _ _ _ _ _ _ _ _ op_add (pv 4) (pv 7)) pa_nil (by rfl)) (by rfl))) pa_nil (by rfl)) (by rfl))))) pss_nil))))) (by intro _; rfl))) (by intro _; rfl)) (@pss_one _ _ _ (@ps_ret _ _ _ _ (pv 5)))))))), ?_⟩
  refine ⟨_, rfl, st, c, cs, t, 7, rfl, S, by omega, by omega, by decide, by decide, fun way cs1 H1 a1 b1 S1 K1 => ?_⟩
  -- sizes
  refine ⟨2, rfl, by decide, by decide, ?_⟩
  refine comp_any (fun σ' => ∃ z, σ' = [z, some (.ref st)]) 2 (by decide) ⟨none, rfl⟩ (fun p i ac J => H1 p = none ∧ ac.length = i ∧ (∀ v ∈ ac, ∃ n : Int, v = .int n ∧ 1 ≤ n ∧ n ≤ 20) ∧ ∃ (cs' : List Int), StAt J st c cs' (t + 1 + 2 * i) ∧ Kp st c H1 J)
    (fun p J hp g e => ⟨hp, rfl, fun v hv => by simp at hv, cs1, by rw [show t + 1 + 2 * ((0 : Nat) : Int) = t + 1 by omega]; exact S1.same g, Kp.same g⟩) (fun p i ac J _ hi => hi) (fun p ac J _ => Nat.le_refl _) ?_ ?_
  · rintro s3 H3' fp p j ac σ' J hp hj ⟨z, rfl⟩ hla hac ⟨hpf, hlj, hall, cs', SJ, KJ⟩ v J2 ⟨rfl, rfl⟩ Nx Ap _ hA
    have np : p ≠ st ∧ p ≠ c := ⟨(ne_of_none S1.d hp).symm, (ne_of_none S1.l hp).symm⟩
    refine gname_yes ?_
    refine ⟨_, rfl, (by show 3 ≤ sizeLine; decide), fun l3 M1 hl3 m1 w3 => ?_⟩
    have SM := SJ.same m1
    refine ⟨_, rfl, st, c, cs', t + 1 + 2 * j, 3, rfl, SM, by omega, by omega, by decide, by decide, fun r cs2 M2 ra rb S2 K2 => ?_⟩
    have n3 : l3 ≠ st ∧ l3 ≠ c := ⟨(ne_of_none SJ.d hl3).symm, (ne_of_none SJ.l hl3).symm⟩
    have w32 := K2 _ _ w3 n3.1 n3.2
    obtain ⟨m, hat, hm1, hm2⟩ : ∃ m : Int, atI [V.int 3, V.int 7, V.int 20] r = some (.int m) ∧ 1 ≤ m ∧ m ≤ 20 := by
      have : r = 0 ∨ r = 1 ∨ r = 2 := by omega
      rcases this with rfl | rfl | rfl
      · exact ⟨3, rfl, by decide, by decide⟩
      · exact ⟨7, rfl, by decide, by decide⟩
      · exact ⟨20, rfl, by decide, by decide⟩
    refine ⟨l3, _, _, _, rfl, rfl, SqL.of w32, hat, st, c, cs2, t + 1 + 2 * j + 1, m, rfl, S2, by omega, by omega, by omega, by omega, fun r' cs3 M3 ra' rb' S3 K3 => ⟨_, _, rfl, rfl, ?_⟩⟩
    have hac3 := K3 _ _ (K2 _ _ (m1 _ _ hac) np.1 np.2) np.1 np.2
    refine hA _ _ M3 ⟨_, rfl⟩ hac3 fun M4 put => ?_
    have S4 : StAt M4 st c cs3 (t + 1 + 2 * j + 1 + 1) := ⟨put.keep S3.d np.1.symm, put.keep S3.l np.2.symm, S3.pos, S3.len⟩
    refine ⟨hpf, by rw [List.length_append, hlj]; rfl, fun v hv => ?_, cs3, by rw [show t + 1 + 2 * ((j + 1 : Nat) : Int) = t + 1 + 2 * j + 1 + 1 by push_cast; omega]; exact S4, fun b o e h1 h2 => put.keep (K3 _ _ (K2 _ _ (m1 _ _ (KJ b o e h1 h2)) h1 h2) h1 h2) (ne_of_none e hpf)⟩
    rcases List.mem_append.mp hv with h | h
    · exact hall v h
    · rw [List.mem_singleton.mp h]
      exact ⟨1 + r', rfl, by omega, by omega⟩
  intro ls ac H2 hls _ els ⟨_, hlj, hall, cs2, S2, K2⟩
  obtain ⟨s0, s1, rfl, hs0, hs1⟩ : ∃ s0 s1 : Int, ac = [V.int s0, .int s1] ∧ (1 ≤ s0 ∧ s0 ≤ 20) ∧ (1 ≤ s1 ∧ s1 ≤ 20) := by
    match ac, hlj, hall with
    | [u, v], _, hall =>
      obtain ⟨n, rfl, hn⟩ := hall u (by simp)
      obtain ⟨m, rfl, hm⟩ := hall v (by simp)
      exact ⟨n, m, rfl, hn, hm⟩
  have nls : ls ≠ st ∧ ls ≠ c := ⟨(ne_of_none S1.d hls).symm, (ne_of_none S1.l hls).symm⟩
  have KK2 := K1.trans K2
  clear hall hlj
  -- left, low
  refine ⟨_, rfl, st, c, cs2, _, 41, rfl, S2, by omega, by omega, by decide, by decide, fun r3 cs3 H3 a3 b3 S3 K3 => ?_⟩
  refine ⟨_, _, rfl, rfl, _, rfl, st, c, cs3, _, 41, rfl, S3, by omega, by omega, by decide, by decide, fun r4 cs4 H4 a4 b4 S4 K4 => ⟨_, _, rfl, rfl, _, _, rfl, ?_⟩⟩
  have els4 := K4 _ _ (K3 _ _ els nls.1 nls.2) nls.1 nls.2
  have KK4 := (KK2.trans K3).trans K4
  refine ⟨(by show 0 ≤ sizeLine; decide), fun po H5 hpo g5 e5 => ?_⟩
  have S5 := S4.same g5
  have npo : po ≠ st ∧ po ≠ c := ⟨(ne_of_none S4.d hpo).symm, (ne_of_none S4.l hpo).symm⟩
  have nlp : ls ≠ po := ne_of_none els4 hpo
  have hpoH : H po = none := Kp.none KK4 S4 hpo
  have KK5 := KK4.trans (Kp.same g5)
  have els5 := g5 _ _ els4
  obtain ⟨lf, elf⟩ : ∃ lf, lf = r3 - 41 + 21 := ⟨_, rfl⟩
  -- the field
  refine ⟨_, rfl, ls, _, _, _, rfl, rfl, SqL.of els5, atI_nat (j := 0) rfl, s0, rfl, by omega, by omega, for_range (lo := 0) (n := s0.toNat) (fun i σ L => ∃ (v6 v7 v8 v9 : Option V) (cs' : List Int) (t' : Int) (xs : List V) (ps : List (Int × Int)), σ = [some (.ref st), some (.int way), some (.ref ls), some (.int (r3 - 20)), some (.int (r4 - 20)), some (.ref po), v6, v7, v8, v9] ∧ StAt L st c cs' t' ∧ t ≤ t' ∧ t' ≤ t + 10 + 40 * i ∧ L ls = some (.lst [.int s0, .int s1]) ∧ L po = some (.lst xs) ∧ RawP L ps xs ∧ ps.length ≤ 20 * i ∧ Kp st c H L)
    ⟨none, none, none, none, cs4, _, [], [], rfl, S5, by omega, by push_cast; omega, els5, e5, ⟨rfl, fun i v q a => by simp at a⟩, Nat.le_refl _, KK5⟩ ?_ ?_⟩
  · rintro i σ L hi ⟨v6, v7, v8, v9, cs', t', xs, ps, rfl, SL, u0, u1, elL, epL, hraw, hpl, KL⟩
    have i20 : (i : Int) < 20 := by omega
    refine ⟨_, rfl, ls, _, _, _, rfl, rfl, SqL.of elL, atI_nat (j := 1) rfl, s1, rfl, by omega, by omega, for_range (lo := 0) (n := s1.toNat) (fun j σ L => ∃ (v7 v8 v9 : Option V) (cs' : List Int) (t' : Int) (xs : List V) (ps : List (Int × Int)), σ = [some (.ref st), some (.int way), some (.ref ls), some (.int (r3 - 20)), some (.int (r4 - 20)), some (.ref po), some (.int (0 + (i : Int))), v7, v8, v9] ∧ StAt L st c cs' t' ∧ t ≤ t' ∧ t' ≤ t + 10 + 40 * i + 2 * j ∧ L ls = some (.lst [.int s0, .int s1]) ∧ L po = some (.lst xs) ∧ RawP L ps xs ∧ ps.length ≤ 20 * i + j ∧ Kp st c H L)
      ⟨v7, v8, v9, cs', t', xs, ps, rfl, SL, u0, by push_cast; omega, elL, epL, hraw, by omega, KL⟩ ?_ ?_⟩
    · rintro j σ L hj ⟨v7, v8, v9, cs', t', xs, ps, rfl, SL, u0, u1, elL, epL, hraw, hpl, KL⟩
      have j20 : (j : Int) < 20 := by omega
      have w7 : way = 0 ∨ way = 1 ∨ way = 2 ∨ way = 3 ∨ way = 4 ∨ way = 5 ∨ way = 6 := by omega
      dsimp only [gName]
      -- edge
      refine asg_split (fun σ' L' => ∃ b8 : Bool, σ' = [some (.ref st), some (.int way), some (.ref ls), some (.int (r3 - 20)), some (.int (r4 - 20)), some (.ref po), some (.int (0 + (i : Int))), some (.int (0 + (j : Int))), some (.bl b8), v9] ∧ Same L L') ?_ ?_
      · rintro σ1 L1 ⟨b8, rfl, m1⟩
        -- in it
        refine asg_split (fun σ' L' => ∃ b9 : Bool, σ' = [some (.ref st), some (.int way), some (.ref ls), some (.int (r3 - 20)), some (.int (r4 - 20)), some (.ref po), some (.int (0 + (i : Int))), some (.int (0 + (j : Int))), some (.bl b8), some (.bl b9)] ∧ Same L L') ?_ ?_
        · rintro σ2 L2 ⟨b9, rfl, m2⟩
          have S2' := SL.same m2
          have els2 := m2 _ _ elL
          have ep2 := m2 _ _ epL
          have raw2 := hraw.t (Same.t m2)
          have KL2 := KL.trans (Kp.same m2)
          refine if_split (fun σ' L' => ∃ (b9 : Bool) (cs' : List Int) (t'' : Int), σ' = [some (.ref st), some (.int way), some (.ref ls), some (.int (r3 - 20)), some (.int (r4 - 20)), some (.ref po), some (.int (0 + (i : Int))), some (.int (0 + (j : Int))), some (.bl b8), some (.bl b9)] ∧ StAt L' st c cs' t'' ∧ t' ≤ t'' ∧ t'' ≤ t' + 1 ∧ L' ls = some (.lst [.int s0, .int s1]) ∧ L' po = some (.lst xs) ∧ RawP L' ps xs ∧ Kp st c H L') ?_ ?_
          · rintro σ3 L3 ⟨b9, cs3, t3, rfl, S3, v0, v1, els3, ep3, raw3, KL3⟩
            have xl : xs.length = ps.length := raw3.1
            refine ⟨_, rfl, _, rfl, iteB (fun _ => ?_) (fun _ => ?_)⟩
            · refine ⟨_, rfl, .inl ⟨rfl, _, SqL.of ep3⟩, ?_⟩
              refine ⟨_, rfl, _, rfl, false, po, xs, rfl, SqL.of ep3, _, _, rfl, rfl, st, c, cs3, t3, ((xs.length : Nat) : Int) + 1, rfl, S3, by omega, by omega, by omega, by omega, fun k cs4 L4 ka kb S4 K4 => ?_⟩
              refine ⟨_, rfl, _, rfl, _, _, rfl, rfl, _, rfl, _, rfl, _, _, rfl, rfl, (by show 2 ≤ sizeLine; decide), fun pn L5 hpn g5 e5 => ?_⟩
              have ep5 := g5 _ _ (K4 _ _ ep3 npo.1 npo.2)
              refine ⟨po, xs, k, _, rfl, rfl, ep5, ka, by omega, by omega, fun L6 put => ?_⟩
              have tc := put.t ep5 rfl
              have S6 : StAt L6 st c cs4 (t3 + 1) := ⟨put.keep (S4.same g5).d npo.1.symm, put.keep (S4.same g5).l npo.2.symm, S4.pos, S4.len⟩
              refine ⟨_, _, _, cs4, t3 + 1, _, ps.take k.toNat ++ (r3 - 20 + (0 + (i : Int)), r4 - 20 + (0 + (j : Int))) :: ps.drop k.toNat, rfl, S6, by omega, by push_cast; omega, put.keep (g5 _ _ (K4 _ _ els3 nls.1 nls.2)) nlp, put.at_, ?_, ?_, fun b o e h1 h2 => put.keep (g5 _ _ (K4 _ _ (KL3 b o e h1 h2) h1 h2)) (ne_of_none e hpoH)⟩
              · exact (raw3.t ((S3.t K4).trans ((Same.t g5).trans tc))).ins k.toNat (tc _ _ e5 rfl)
              · rw [List.length_append, List.length_cons, List.length_take, List.length_drop]
                omega
            · exact ⟨_, _, _, cs3, t3, xs, ps, rfl, S3, by omega, by push_cast; omega, els3, ep3, raw3, by omega, KL3⟩
          · intro rest
            refine ⟨_, rfl, _, _, rfl, rfl, _, rfl, iteB (fun hb => ?_) (fun hb => rest _ _ ⟨b9, cs', t', rfl, S2', by omega, by omega, els2, ep2, raw2, KL2⟩)⟩
            have hw : 4 < way := by simpa using hb
            refine ⟨_, rfl, _, rfl, _, _, rfl, rfl, st, c, cs', t', way - 3, rfl, S2', by omega, by omega, by omega, by omega, fun k cs4 L4 ka kb S4 K4 => ?_⟩
            exact ⟨_, _, rfl, rfl, rest _ _ ⟨_, cs4, t' + 1, rfl, S4, by omega, by omega, K4 _ _ els2 nls.1 nls.2, K4 _ _ ep2 npo.1 npo.2, raw2.t (S2'.t K4), KL2.trans K4⟩⟩
        · intro rest
          have pick : ∀ b1 b2 b3 b4 : Bool, ∃ b9 : Bool, atI [V.bl true, .bl b1, .bl b2, .bl b3, .bl b4, .bl true, .bl true] way = some (.bl b9) := fun b1 b2 b3 b4 => by
            rcases w7 with rfl | rfl | rfl | rfl | rfl | rfl | rfl
            · exact ⟨_, rfl⟩
            · exact ⟨_, rfl⟩
            · exact ⟨_, rfl⟩
            · exact ⟨_, rfl⟩
            · exact ⟨_, rfl⟩
            · exact ⟨_, rfl⟩
            · exact ⟨_, rfl⟩
          refine ⟨_, rfl, ?_⟩
          refine ⟨_, rfl, _, rfl, _, _, rfl, rfl, _, _, rfl, rfl, (by show (0 : Int) < 2; decide), rfl, ?_⟩
          refine ⟨_, rfl, _, rfl, _, _, rfl, rfl, _, _, rfl, rfl, (by show (0 : Int) < 3; decide), rfl, ?_⟩
          refine ⟨_, rfl, _, _, rfl, rfl, (by show (0 : Int) < 2; decide), rfl, _, rfl, iteB (fun _ => ?_) (fun _ => ⟨_, rfl, _, _, rfl, rfl, (by show (0 : Int) < 5; decide), rfl, ?_⟩)⟩
          all_goals
            refine ⟨(by show 7 ≤ sizeLine; decide), fun pl M hpl m e => ?_⟩
            obtain ⟨b9, hat⟩ := pick _ _ _ _
            exact ⟨_, rfl, pl, _, _, _, rfl, rfl, SqL.of e, hat, rest _ _ ⟨b9, rfl, m1.trans' m⟩⟩
      · intro rest
        refine ⟨_, rfl, _, rfl, ls, _, _, _, rfl, rfl, SqL.of elL, atI_nat (j := 0) rfl, _, _, rfl, rfl, (by show 2 ≤ sizeLine; decide), fun p1 M1 _ m1 e1 => ?_⟩
        refine ⟨p1, _, rfl, .inr (SqT.of e1), rfl, rfl, _, rfl, iteB (fun _ => rest _ _ ⟨true, rfl, m1⟩) (fun _ => ?_)⟩
        refine ⟨_, rfl, _, rfl, ls, _, _, _, rfl, rfl, SqL.of (m1 _ _ elL), atI_nat (j := 1) rfl, _, _, rfl, rfl, (by show 2 ≤ sizeLine; decide), fun p2 M2 _ m2 e2 => ?_⟩
        exact ⟨p2, _, rfl, .inr (SqT.of e2), rfl, rfl, rest _ _ ⟨_, rfl, m1.trans' m2⟩⟩
    · rintro σ L ⟨v7, v8, v9, cs', t', xs, ps, rfl, SL, u0, u1, elL, epL, hraw, hpl, KL⟩
      exact ⟨_, _, _, _, cs', t', xs, ps, rfl, SL, u0, by push_cast; omega, elL, epL, hraw, by omega, KL⟩
  · rintro σ L ⟨v6, v7, v8, v9, cs', t', xs, ps, rfl, SL, u0, u1, elL, epL, hraw, hpl, KL⟩
    exact ⟨_, rfl, q po xs ps cs' t' L SL u0 (by omega) KL hpoH npo epL hraw (by omega)⟩
end
end Mp

namespace Mp
open PySem L2
/-! ### drawn walks -/
theorem way_at {K : PySem.W.Frag} {H : Hp} {aw : List V} (h : HasL K H ((List.range 8).map wyD) aw) {d : Nat} (hd : d < 8) : ∃ a, atI aw (d : Int) = some (.ref a) ∧ SqT K H a [.int (dx d), .int (dy d)] := by
  have hl := h.len
  rw [List.length_map, List.length_range] at hl
  have hx : d < aw.length := by omega
  have g : Has K H (wyD d) aw[d] := h.get (by rw [List.getElem?_map, List.getElem?_range hd]; rfl) (List.getElem?_eq_getElem hx)
  rw [wyD, ptD, Has] at g
  obtain ⟨a, ys, e, hs, hy⟩ := g
  have ey := ints_hasL (ns := [dx d, dy d]) hy
  subst ey
  exact ⟨a, (atI_nat (List.getElem?_eq_getElem hx)).trans (by rw [e]), hs⟩
theorem wys_t : tupOL ((List.range 8).map wyD) = true := tupOL_of fun d hd => by
  obtain ⟨p, _, rfl⟩ := List.mem_map.mp hd
  exact ptD_t _
def spWalk (K : PySem.W.Frag) : Sp := fun vs H Q _ => ∃ (st c : Addr) (cs : List Int) (t : Int), vs = [.ref st] ∧ StAt H st c cs t ∧ 0 ≤ t ∧ t < 2 ^ 39 ∧
  ∀ (r : Addr) (acc : List V) (rs : List (Int × Int)) (ds : List Nat) (cs' : List Int) (t' : Int) (H' : Hp), StAt H' st c cs' t' → t ≤ t' → t' ≤ t + 400 → Kp st c H H' → H r = none → (r ≠ st ∧ r ≠ c) → H' r = some (.lst acc) → HasL K H' (rs.map ptD) acc → Road rs ds → rs.length ≤ 1001 → Q (.ref r) H'
section
variable {P : Program} {w : World} {K : PySem.W.Frag} {mg : Str → Option Value} {base : Heap}
theorem scWk : FnScope ["_law_state", "_law_ways_here", "_law_many", "_law_keep", "_law_corner", "_law_road", "_law_way", "_law_turn", "_law_other"] ["_law_state"] (defScope s_walk) := ⟨rfl, rfl, rfl, by decide +kernel, rfl, by decide +kernel, by decide +kernel⟩
set_option maxHeartbeats 4000000 in
theorem ok_walk {f : Addr} {fd : FuncData} (F : Fun K "_law_walk" "_law_walk" s_walk f fd) (T : Txt mg) (G_take : Cal P w K mg base 1 "_law_take" ["_law_state", "_law_many"] spTake) (G_ways : Cal P w K mg base 1 "_law_ways" [] (spWays K)) : FnOk P w K mg base CX0 2 f fd ["_law_state"] (spWalk K) := by
  refine F.ok scWk (fun vs H Q E h => ?_) (fun cdv A outer s H vs Q E hr h => ?_)
  · obtain ⟨st, c, cs, t, rfl, _⟩ := h
    rfl
  obtain ⟨st, c, cs, t, rfl, S, t0, t1, q⟩ := h
  have sc := @scWk
  refine ⟨_, (@pss_cons _ _ _ _ _ (@ps_set _ _ 1 _ _ _ _ sc.nd rfl (Or.inl rfl) (pe_def0 G_ways hr (by rfl)) (by rfl) (Or.inl rfl)) (@pss_cons _ _ _ _ _ (@ps_set _ _ 2 _ _ _ _ sc.nd rfl (Or.inl rfl) (@pe_ix _ _ _ _ _ _ _ ix_list (@pe_lstA _ _ _ _ (@pa_cons _ _ _ _ _ (@pe_def _ _ _ _ _ _ _ _ _ _ _ G_take hr (by rfl) (@pa_cons _ _ _ _ _ (pv 0) (@pa_cons _ _ _ _ _ pe_int pa_nil (by rfl)) (by rfl)) (by omega) (by decide) (by rfl) (by rfl)) (@pa_cons _ _ _ _ _ (@pe_def _ _ _ _ _ _ _ _ _ _ _ G_take hr (by rfl) (@pa_cons _ _ _ _ _ (pv 0) (@pa_cons _ _ _ _ _ pe_int pa_nil (by rfl)) (by rfl)) (by omega) (by decide) (by rfl) (by rfl)) (@pa_cons _ _ _ _ _ (@pe_op _ _ _ _ _ _ _ _ op_add pe_int (@pe_def _ _ _ _ _ _ _ _ _ _ _ G_take hr (by rfl) (@pa_cons _ _ _ _ _ (pv 0) (@pa_cons _ _ _ _ _ pe_int pa_nil (by rfl)) (by rfl)) (by omega) (by decide) (by rfl) (by rfl))) pa_nil (by rfl)) (by rfl)) (by rfl))) (@pe_callB _ _ _ _ _ _ _ _ _ (call_min2 rfl) (by rfl) T.min (by decide +kernel) (@pa_cons _ _ _ _ _ pe_int (@pa_cons _ _ _ _ _ (@pe_op _ _ _ _ _ _ _ _ op_fdiv (@pe_def _ _ _ _ _ _ _ _ _ _ _ G_take hr (by rfl) (@pa_cons _ _ _ _ _ (pv 0) (@pa_cons _ _ _ _ _ pe_int pa_nil (by rfl)) (by rfl)) (by omega) (by decide) (by rfl) (by rfl)) pe_int) pa_nil (by rfl)) (by rfl)) (by decide) (by decide) (by rfl) (by rfl)) (fun _ _ => rfl)) (by rfl) (Or.inl rfl)) (@pss_cons _ _ _ _ _ (@ps_set _ _ 3 _ _ _ _ sc.nd rfl (Or.inl rfl) (@pe_def _ _ _ _ _ _ _ _ _ _ _ G_take hr (by rfl) (@pa_cons _ _ _ _ _ (pv 0) (@pa_cons _ _ _ _ _ pe_int pa_nil (by rfl)) (by rfl)) (by omega) (by decide) (by rfl) (by rfl)) (by rfl) (Or.inl rfl)) (@pss_cons _ _ _ _ _ (@ps_set _ _ 4 _ _ _ _ sc.nd rfl (Or.inl rfl) (@pe_tupA _ _ _ _ _ (@pa_cons _ _ _ _ _ (@pe_op _ _ _ _ _ _ _ _ op_sub (@pe_def _ _ _ _ _ _ _ _ _ _ _ G_take hr (by rfl) (@pa_cons _ _ _ _ _ (pv 0) (@pa_cons _ _ _ _ _ pe_int pa_nil (by rfl)) (by rfl)) (by omega) (by decide) (by rfl) (by rfl)) pe_int) (@pa_cons _ _ _ _ _ (@pe_op _ _ _ _ _ _ _ _ op_sub (@pe_def _ _ _ _ _ _ _ _ _ _ _ G_take hr (by rfl) (@pa_cons _ _ _ _ _ (pv 0) (@pa_cons _ _ _ _ _ pe_int pa_nil (by rfl)) (by rfl)) (by omega) (by decide) (by rfl) (by rfl)) pe_int) pa_nil (by rfl)) (by rfl))) (by rfl) (Or.inl rfl)) (@pss_cons _ _ _ _ _ (@ps_set _ _ 5 _ _ _ _ sc.nd rfl (Or.inl rfl) (@pe_lstA _ _ _ _ (@pa_cons _ _ _ _ _ (pv 4) pa_nil (by rfl))) (by rfl) (Or.inl rfl)) (@pss_cons _ _ _ _ _ (@ps_set _ _ 6 _ _ _ _ sc.nd rfl (Or.inl rfl) (@pe_def _ _ _ _ _ _ _ _ _ _ _ G_take hr (by rfl) (@pa_cons _ _ _ _ _ (pv 0) (@pa_cons _ _ _ _ _ pe_int pa_nil (by rfl)) (by rfl)) (by omega) (by decide) (by rfl) (by rfl)) (by rfl) (Or.inl rfl)) (@pss_cons _ _ _ _ _ (@ps_for _ _ _ _ _ _ _ _ PassesOwn.never rfl (pi_range1 (by rfl) T.range (@pa_cons _ _ _ _ _ (pv 2) pa_nil (by rfl))) (pg_name (i := 7) sc.nd rfl (Or.inl rfl)) (@pss_cons _ _ _ _ _ (@ps_if _ _ _ _ _ _ _ _ (PW.pt (pw_or (@pt_cmpR _ _ _ _ _ _ _ _ op_eq (pv 3) pe_int (nomark _)) (pw_or1 (@pt_cmpR _ _ _ _ _ _ _ _ op_eq (@pe_def _ _ _ _ _ _ _ _ _ _ _ G_take hr (by rfl) (@pa_cons _ _ _ _ _ (pv 0) (@pa_cons _ _ _ _ _ (@pe_op _ _ _ _ _ _ _ _ op_add (pv 3) pe_int) pa_nil (by rfl)) (by rfl)) (by omega) (by decide) (by rfl) (by rfl)) pe_int (nomark _))))) (@pss_one _ _ _ (@ps_set _ _ 6 _ _ _ _ sc.nd rfl (Or.inl rfl) (@pe_def _ _ _ _ _ _ _ _ _ _ _ G_take hr (by rfl) (@pa_cons _ _ _ _ _ (pv 0) (@pa_cons _ _ _ _ _ pe_int pa_nil (by rfl)) (by rfl)) (by omega) (by decide) (by rfl) (by rfl)) (by rfl) (Or.inl rfl))) pss_nil) (@pss_cons _ _ _ _ _ (@ps_set _ _ 8 _ _ _ _ sc.nd rfl (Or.inl rfl) (@pe_tupA _ _ _ _ _ (@pa_cons _ _ _ _ _ (@pe_op _ _ _ _ _ _ _ _ op_add (@pe_ix _ _ _ _ _ _ _ ix_tup (pv 4) pe_int (fun _ _ => rfl)) (@pe_ix _ _ _ _ _ _ _ ix_tup (@pe_ix _ _ _ _ _ _ _ ix_list (pv 1) (pv 6) (fun _ _ => rfl)) pe_int (fun _ _ => rfl))) (@pa_cons _ _ _ _ _ (@pe_op _ _ _ _ _ _ _ _ op_add (@pe_ix _ _ _ _ _ _ _ ix_tup (pv 4) pe_int (fun _ _ => rfl)) (@pe_ix _ _ _ _ _ _ _ ix_tup (@pe_ix _ _ _ _ _ _ _ ix_list (pv 1) (pv 6) (fun _ _ => rfl)) pe_int (fun _ _ => rfl))) pa_nil (by rfl)) (by rfl))) (by rfl) (Or.inl rfl)) (@pss_one _ _ _ (@ps_if _ _ _ _ _ _ _ _ (@pt_cmpR _ _ _ _ _ _ _ _ op_gt (@pe_callB _ _ _ _ _ _ _ _ _ (call_max2 rfl) (by rfl) T.max (by decide +kernel) (@pa_cons _ _ _ _ _ (@pe_callB _ _ _ _ _ _ _ _ _ call_abs (by rfl) T.abs (by decide +kernel) (@pa_cons _ _ _ _ _ (@pe_ix _ _ _ _ _ _ _ ix_tup (pv 8) pe_int (fun _ _ => rfl)) pa_nil (by rfl)) (by decide) (by decide) (by rfl) (by rfl)) (@pa_cons _ _ _ _ _ (@pe_callB _ _ _ _ _ _ _ _ _ call_abs (by rfl) T.abs (by decide +kernel) (@pa_cons _ _ _ _ _ (@pe_ix _ _ _ _ _ _ _ ix_tup (pv 8) pe_int (fun _ _ => rfl)) pa_nil (by rfl)) (by decide) (by decide) (by rfl) (by rfl)) pa_nil (by rfl)) (by rfl)) (by decide) (by decide) (by rfl) (by rfl)) pe_int (nomark _)) (@pss_one _ _ _ (@ps_set _ _ 6 _ _ _ _ sc.nd rfl (Or.inl rfl) (@pe_op _ _ _ _ _ _ _ _ op_mod (@pe_op _ _ _ _ _ _ _ _ op_add (pv 6) pe_int) pe_int) (by rfl) (Or.inl rfl))) (@pss_cons _ _ _ _ _ (@ps_set _ _ 4 _ _ _ _ sc.nd rfl (Or.inl rfl) (pv 8) (by rfl) (Or.inl rfl)) (@pss_one _ _ _ (ps_expr (pe_bm PySem.F.plainAttrs_list PySem.F.slot_list_append PySem.F.type_list_append mt_appendA (pv 5) (@pa_cons _ _ _ _ _ (pv 4) pa_nil (by rfl)))))))))) (by intro _; rfl)) (@pss_one _ _ _ (@ps_ret _ _ _ _ (pv 5)))))))))), ?_⟩
  refine ⟨rfl, fun pw aw H1 hpw g1 ew lw => ?_⟩
  have npw : pw ≠ st ∧ pw ≠ c := ⟨(ne_of_none S.d hpw).symm, (ne_of_none S.l hpw).symm⟩
  have S1 := S.same g1
  -- many
  refine ⟨_, rfl, st, c, cs, t, 4, rfl, S1, by omega, by omega, by decide, by decide, fun r2 cs2 H2 a2 b2 S2 K2 => ?_⟩
  refine ⟨_, rfl, st, c, cs2, t + 1, 13, rfl, S2, by omega, by omega, by decide, by decide, fun r3 cs3 H3 a3 b3 S3 K3 => ?_⟩
  refine ⟨_, rfl, st, c, cs3, t + 1 + 1, 69, rfl, S3, by omega, by omega, by decide, by decide, fun r4 cs4 H4 a4 b4 S4 K4 => ⟨_, _, rfl, rfl, ?_⟩⟩
  refine ⟨(by show 3 ≤ sizeLine; decide), fun lm H5 hlm g5 e5 => ?_⟩
  have S5 := S4.same g5
  have nlm : lm ≠ st ∧ lm ≠ c := ⟨(ne_of_none S4.d hlm).symm, (ne_of_none S4.l hlm).symm⟩
  refine ⟨_, rfl, st, c, cs4, t + 1 + 1 + 1, 6, rfl, S5, by omega, by omega, by decide, by decide, fun r6 cs6 H6 a6 b6 S6 K6 => ?_⟩
  refine ⟨_, _, rfl, rfl, ⟨by decide, by decide⟩, _, _, rfl, ?_⟩
  have e56 := K6 _ _ e5 nlm.1 nlm.2
  obtain ⟨many, hat, m0, m80⟩ : ∃ many : Int, atI [V.int r2, V.int r3, V.int (12 + r4)] (if r6 / 2 < 2 then r6 / 2 else 2) = some (.int many) ∧ 0 ≤ many ∧ many ≤ 80 := by
    have : (if r6 / 2 < 2 then r6 / 2 else 2) = 0 ∨ (if r6 / 2 < 2 then r6 / 2 else 2) = 1 ∨ (if r6 / 2 < 2 then r6 / 2 else 2) = 2 := by split <;> omega
    rcases this with e | e | e <;> rw [e]
    · exact ⟨r2, rfl, a2, by omega⟩
    · exact ⟨r3, rfl, a3, by omega⟩
    · exact ⟨12 + r4, rfl, by omega, by omega⟩
  refine ⟨lm, _, _, _, rfl, rfl, SqL.of e56, hat, ?_⟩
  have KK6 : Kp st c H H6 := (Kp.same g1).trans (K2.trans (K3.trans (K4.trans ((Kp.same g5).trans K6))))
  have ew6 := K6 _ _ (g5 _ _ (K4 _ _ (K3 _ _ (K2 _ _ ew npw.1 npw.2) npw.1 npw.2) npw.1 npw.2)) npw.1 npw.2
  have T16 : TSame H1 H6 := (S1.t K2).trans ((S2.t K3).trans ((S3.t K4).trans ((Same.t g5).trans (S5.t K6))))
  have lw6 := HasL.tsame T16 wys_t lw
  clear K2 K3 K4 K6 S1 S2 S3 S4 S5 e5 e56 ew lw T16 hat
  -- keep, corner, road, way
  refine ⟨_, rfl, st, c, cs6, t + 1 + 1 + 1 + 1, 4, rfl, S6, by omega, by omega, by decide, by decide, fun kp cs7 H7 a7 b7 S7 K7 => ?_⟩
  refine ⟨_, rfl, st, c, cs7, t + 1 + 1 + 1 + 1 + 1, 21, rfl, S7, by omega, by omega, by decide, by decide, fun r8 cs8 H8 a8 b8 S8 K8 => ⟨_, _, rfl, rfl, ?_⟩⟩
  refine ⟨_, rfl, st, c, cs8, t + 1 + 1 + 1 + 1 + 1 + 1, 21, rfl, S8, by omega, by omega, by decide, by decide, fun r9 cs9 H9 a9 b9 S9 K9 => ⟨_, _, rfl, rfl, ?_⟩⟩
  refine ⟨(by show 2 ≤ sizeLine; decide), fun pc H10 hpc g10 e10 => ?_⟩
  refine ⟨_, rfl, (by show 1 ≤ sizeLine; decide), fun ro H11 hro g11 e11 => ?_⟩
  have KK9 := KK6.trans (K7.trans (K8.trans K9))
  have S11 := S9.same (g10.trans' g11)
  have hro9 : H9 ro = none := g10.none hro
  have hroH : H ro = none := Kp.none KK9 S9 hro9
  have nro : ro ≠ st ∧ ro ≠ c := ⟨(ne_of_none S9.d hro9).symm, (ne_of_none S9.l hro9).symm⟩
  have KK11 := KK9.trans (Kp.same (g10.trans' g11))
  have ew9 := K9 _ _ (K8 _ _ (K7 _ _ ew6 npw.1 npw.2) npw.1 npw.2) npw.1 npw.2
  have nrw : pw ≠ ro := ne_of_none ew9 hro9
  have ew11 := (g10.trans' g11) _ _ ew9
  have lw11 := HasL.tsame ((S6.t K7).trans ((S7.t K8).trans ((S8.t K9).trans (Same.t (g10.trans' g11))))) wys_t lw6
  have sc11 : SqT K H11 pc [.int (r8 - 10), .int (r9 - 10)] := SqT.of (g11 _ _ e10)
  refine ⟨_, rfl, st, c, cs9, t + 1 + 1 + 1 + 1 + 1 + 1 + 1, 8, rfl, S11, by omega, by omega, by decide, by decide, fun way cs12 H12 a12 b12 S12 K12 => ?_⟩
  have T12 := S11.t K12
  refine ⟨_, rfl, many, rfl, by omega, by omega, for_range (lo := 0) (n := many.toNat) (fun i σ L => ∃ (v7 v8 : Option V) (way : Nat) (pc : Addr) (acc : List V) (pre : List (Int × Int)) (p : Int × Int) (ds : List Nat) (cs' : List Int) (t' : Int), σ = [some (.ref st), some (.ref pw), some (.int many), some (.int kp), some (.ref pc), some (.ref ro), some (.int (way : Int)), v7, v8] ∧ way < 8 ∧ StAt L st c cs' t' ∧ t ≤ t' ∧ t' ≤ t + 9 + 2 * i ∧ Kp st c H L ∧ L pw = some (.lst aw) ∧ HasL K L ((List.range 8).map wyD) aw ∧ SqT K L pc [.int p.1, .int p.2] ∧ L ro = some (.lst acc) ∧ HasL K L ((pre ++ [p]).map ptD) acc ∧ Road (pre ++ [p]) ds ∧ pre.length ≤ i)
    ⟨none, none, way.toNat, pc, _, [], (r8 - 10, r9 - 10), [], cs12, _, by rw [show ((way.toNat : Nat) : Int) = way by omega]; rfl, by omega, S12, by omega, by push_cast; omega, KK11.trans K12, K12 _ _ ew11 npw.1 npw.2, HasL.tsame T12 wys_t lw11, SqT.tsame T12 sc11, K12 _ _ e11 nro.1 nro.2, hasL_cons (has_pt (SqT.tsame T12 sc11)) hasL_nil, road_one _, Nat.le_refl _⟩ ?_ ?_⟩
  · rintro i σ L hi ⟨v7, v8, way, pc, acc, pre, p, ds, cs', t', rfl, hw8, SL, u0, u1, KL, ewL, lwL, scL, eroL, lroL, hR, hpl⟩
    have i80 : (i : Int) < 80 := by omega
    dsimp only [gName]
    refine if_split (fun σ' L' => ∃ (way : Nat) (cs' : List Int) (t'' : Int), σ' = [some (.ref st), some (.ref pw), some (.int many), some (.int kp), some (.ref pc), some (.ref ro), some (.int (way : Int)), some (.int (0 + (i : Int))), v8] ∧ way < 8 ∧ StAt L' st c cs' t'' ∧ t' ≤ t'' ∧ t'' ≤ t' + 2 ∧ TSame L L' ∧ Kp st c L L') ?_ ?_
    · rintro σ1 L1 ⟨way, cs1, t1', rfl, hw8, SL1, v0, v1, T1, K1⟩
      have KL1 := KL.trans K1
      have ew1 := K1 _ _ ewL npw.1 npw.2
      have lw1 := HasL.tsame T1 wys_t lwL
      have sc1 := SqT.tsame T1 scL
      have ero1 := K1 _ _ eroL nro.1 nro.2
      have lro1 := HasL.tsame T1 (pts_t _) lroL
      obtain ⟨aa, hat, sa⟩ := way_at lw1 hw8
      refine ⟨_, rfl, pc, _, _, _, rfl, rfl, sc1, atI_nat (j := 0) rfl, _, rfl, _, rfl, pw, _, _, _, rfl, rfl, SqL.of ew1, hat, aa, _, _, _, rfl, rfl, sa, atI_nat (j := 0) rfl, _, _, rfl, rfl, ?_⟩
      refine ⟨_, rfl, pc, _, _, _, rfl, rfl, sc1, atI_nat (j := 1) rfl, _, rfl, _, rfl, pw, _, _, _, rfl, rfl, SqL.of ew1, hat, aa, _, _, _, rfl, rfl, sa, atI_nat (j := 1) rfl, _, _, rfl, rfl, ?_⟩
      refine ⟨(by show 2 ≤ sizeLine; decide), fun pn L2 hpn g2 en => ?_⟩
      have sn : SqT K L2 pn [.int (p.1 + dx way), .int (p.2 + dy way)] := SqT.of en
      refine ⟨_, rfl, pn, _, _, _, rfl, rfl, sn, atI_nat (j := 0) rfl, _, rfl, _, rfl, pn, _, _, _, rfl, rfl, sn, atI_nat (j := 1) rfl, _, rfl, _, _, rfl, _, _, rfl, rfl, _, rfl, iteB (fun _ => ?_) (fun _ => ?_)⟩
      · refine ⟨_, rfl, _, _, rfl, rfl, _, _, rfl, rfl, (by show (0 : Int) < 8; decide), ?_⟩
        have h0 : 0 ≤ ((way : Int) + 4) % 8 := Int.emod_nonneg _ (by decide)
        have h8 : ((way : Int) + 4) % 8 < 8 := Int.emod_lt_of_pos _ (by decide)
        exact ⟨_, _, (((way : Int) + 4) % 8).toNat, pc, acc, pre, p, ds, cs1, t1', by rw [show (((((way : Int) + 4) % 8).toNat : Nat) : Int) = ((way : Int) + 4) % 8 by omega]; rfl, by omega, SL1.same g2, by omega, by push_cast; omega, KL1.trans (Kp.same g2), g2 _ _ ew1, HasL.same g2 lw1, SqT.same g2 sc1, g2 _ _ ero1, HasL.same g2 lro1, hR, by omega⟩
      · have ero2 := g2 _ _ ero1
        have zacc : acc.length = pre.length + 1 := by rw [← lro1.len, List.length_map, List.length_append]; rfl
        refine ⟨_, rfl, _, rfl, .inl ⟨rfl, _, SqL.of ero2⟩, _, rfl, ro, acc, _, rfl, rfl, ero2, (by show acc.length < 2 ^ 24; omega), fun L3 put => ?_⟩
        have tc := put.t ero2 rfl
        have S3 : StAt L3 st c cs1 t1' := ⟨put.keep (SL1.same g2).d nro.1.symm, put.keep (SL1.same g2).l nro.2.symm, SL1.pos, SL1.len⟩
        refine ⟨_, _, way, pn, _, pre ++ [p], (p.1 + dx way, p.2 + dy way), ds ++ [way], cs1, t1', rfl, hw8, S3, by omega, by push_cast; omega, fun b o e h1 h2 => put.keep (g2 _ _ (KL1 b o e h1 h2)) (ne_of_none e hroH), put.keep (g2 _ _ ew1) nrw, HasL.tsame tc wys_t (HasL.same g2 lw1), SqT.tsame tc sn, put.at_, ?_, road_snoc hR rfl hw8, by rw [List.length_append]; show _ + 1 ≤ _; omega⟩
        rw [List.map_append]
        exact HasL.append (HasL.tsame tc (pts_t _) (HasL.same g2 lro1)) (hasL_cons (has_pt (SqT.tsame tc sn)) hasL_nil)
    · intro rest
      refine ⟨_, rfl, rfl, _, rfl, iteB (fun _ => ?_) (fun _ => ?_)⟩
      · refine ⟨_, rfl, st, c, cs', t', 8, rfl, SL, by omega, by omega, by decide, by decide, fun k cs4 L4 ka kb S4 K4 => ?_⟩
        refine rest _ _ ⟨k.toNat, cs4, t' + 1, by rw [show ((k.toNat : Nat) : Int) = k by omega]; rfl, by omega, S4, by omega, by omega, SL.t K4, K4⟩
      · refine ⟨_, rfl, _, rfl, _, _, rfl, rfl, st, c, cs', t', kp + 1, rfl, SL, by omega, by omega, by omega, by omega, fun k cs4 L4 ka kb S4 K4 => ?_⟩
        refine ⟨rfl, _, rfl, iteB (fun _ => ?_) (fun _ => rest _ _ ⟨way, cs4, t' + 1, rfl, hw8, S4, by omega, by omega, SL.t K4, K4⟩)⟩
        refine ⟨_, rfl, st, c, cs4, t' + 1, 8, rfl, S4, by omega, by omega, by decide, by decide, fun k' cs5 L5 ka' kb' S5 K5 => ?_⟩
        exact rest _ _ ⟨k'.toNat, cs5, t' + 1 + 1, by rw [show ((k'.toNat : Nat) : Int) = k' by omega]; rfl, by omega, S5, by omega, by omega, (SL.t K4).trans (S4.t K5), K4.trans K5⟩
  · rintro σ L ⟨v7, v8, way, pc, acc, pre, p, ds, cs', t', rfl, hw8, SL, u0, u1, KL, ewL, lwL, scL, eroL, lroL, hR, hpl⟩
    exact ⟨_, rfl, q ro acc (pre ++ [p]) ds cs' t' L SL u0 (by omega) KL hroH nro eroL lroL hR (by rw [List.length_append]; show _ + 1 ≤ _; omega)⟩
end
end Mp

namespace Mp
open PySem L2
/-! ### one road and one grain -/
theorem gdL_pts : ∀ ps : List (Int × Int), gdL (ps.map ptD) = true
  | [] => by simp [gdL]
  | p :: r => by
    rw [List.map_cons, gdL, gdL_pts r, ptD, gd_tup (by simp)]
    rfl
theorem gd_pts {ps : List (Int × Int)} (h : ps.length ≤ 100000) : gd (.lst (ps.map ptD)) = true := by
  rw [gd, gdL_pts, decide_eq_true (by rw [List.length_map]; exact h)]
  rfl
theorem gd_psD {pss : List (List (Int × Int))} (h1 : pss.length ≤ 100000) (h2 : ∀ s ∈ pss, s.length ≤ 100000) : gd (psD pss) = true := by
  have : ∀ l : List (List (Int × Int)), (∀ s ∈ l, s.length ≤ 100000) → gdL (l.map fun s => Dt.lst (s.map ptD)) = true := fun l => by
    induction l with
    | nil => intro _; rw [List.map_nil, gdL]
    | cons s r ih =>
      intro h
      rw [List.map_cons, gdL, gd_pts (h s (List.mem_cons_self ..)), ih fun s hs => h s (List.mem_cons_of_mem _ hs)]
      rfl
  rw [psD, gd, this pss h2, decide_eq_true (by rw [List.length_map]; exact h1)]
  rfl
theorem dptL_pts : ∀ ps : List (Int × Int), dptL (ps.map ptD) ≤ 1
  | [] => by simp [dptL]
  | p :: r => by
    have := dptL_pts r
    rw [List.map_cons, dptL, ptD, dpt, dptL_ints]
    omega
theorem dpt_psD (pss : List (List (Int × Int))) : dpt (psD pss) < 4 := by
  have : ∀ l : List (List (Int × Int)), dptL (l.map fun s => Dt.lst (s.map ptD)) ≤ 2 := fun l => by
    induction l with
    | nil => simp [dptL]
    | cons s r ih =>
      rw [List.map_cons, dptL, dpt]
      have := dptL_pts s
      omega
  rw [psD, dpt]
  have := this pss
  omega
theorem has_pts {K : PySem.W.Frag} {H : Hp} {p : Addr} {acc : List V} {ps : List (Int × Int)} (e : H p = some (.lst acc)) (h : HasL K H (ps.map ptD) acc) : Has K H (.lst (ps.map ptD)) (.ref p) := by
  rw [Has]
  exact ⟨p, acc, rfl, SqL.of e, h⟩
theorem pieces_small {rs : List (Int × Int)} {ss : List Int} (h : ss.length ≤ 2000) : (piecesF rs ss).length ≤ 100000 ∧ ∀ s ∈ piecesF rs ss, s.length ≤ 100000 := by
  have gb := gst_b (rs := rs) (ss := ss) ss.length
  have tl : ∀ b n lie, (tpc rs b n lie).length ≤ n + 1 := fun b n lie => by
    have := seg_len (rs := rs) (b := b) (n := n)
    unfold tpc
    split
    · rw [List.length_reverse]; exact this
    · exact this
  have done : ∀ n, ∀ s ∈ (gst rs ss n).done, s.length ≤ n + 1 := fun n => by
    induction n with
    | zero => intro s hs; simp [gst] at hs
    | succ n ih =>
      intro s hs
      rw [gst] at hs
      split at hs
      · rcases List.mem_append.mp hs with h | h
        · have := ih s h
          omega
        · rw [List.mem_singleton.mp h]
          have := tl (gst rs ss n).b n (gst rs ss n).lie
          omega
      · have := ih s hs
        omega
  unfold piecesF
  refine ⟨by rw [List.length_append]; show _ + 1 ≤ _; omega, fun s hs => ?_⟩
  rcases List.mem_append.mp hs with h' | h'
  · have := done _ s h'
    omega
  · rw [List.mem_singleton.mp h']
    have := tl (gst rs ss ss.length).b ss.length (gst rs ss ss.length).lie
    omega
theorem pieces_ne {rs : List (Int × Int)} {ss : List Int} : 0 < (piecesF rs ss).length := by
  unfold piecesF
  rw [List.length_append]
  exact Nat.succ_pos _
def spLRight (K : PySem.W.Frag) : Sp := fun vs H Q _ => ∃ (r : Addr) (acc : List V) (rs : List (Int × Int)) (ds : List Nat) (g : Int), vs = [.ref r, .int g] ∧ H r = some (.lst acc) ∧ HasL K H (rs.map ptD) acc ∧ Road rs ds ∧ rs.length ≤ 1001 ∧ ∀ H', Same H H' → Q (.bl true) H'
section
variable {P : Program} {w : World} {K : PySem.W.Frag} {mg : Str → Option Value} {base : Heap}
theorem scRi : FnScope ["_law_road", "_law_grain", "_law_due", "_law_kept", "_law_found"] ["_law_road", "_law_grain"] (defScope s_right) := ⟨rfl, rfl, rfl, by decide +kernel, rfl, by decide +kernel, by decide +kernel⟩
set_option maxHeartbeats 4000000 in
theorem ok_lright {f : Addr} {fd : FuncData} (F : Fun K "_law_right" "_law_right" s_right f fd) (T : Txt mg) (G_pieces : Cal P w K mg base 3 "_law_pieces" ["_law_road", "_law_grain"] (spLPieces K)) (G_with_grain : Cal P w K mg base 4 "with_grain" ["run", "grain"] (spGrain K)) (G_same : Cal P w K mg base 4 "_law_same" ["_law_found", "_law_due"] (spSame K 4)) : FnOk P w K mg base CX0 5 f fd ["_law_road", "_law_grain"] (spLRight K) := by
  refine F.ok scRi (fun vs H Q E h => ?_) (fun cdv A outer s H vs Q E hr h => ?_)
  · obtain ⟨r, acc, rs, ds, g, rfl, _⟩ := h
    rfl
  obtain ⟨r, acc, rs, ds, g, rfl, hr1, hl, hR, hlen, q⟩ := h
  have sc := @scRi
  have nd1 : (["_law_corner"] : List Str).Nodup := by decide +kernel
  have hal : acc.length = rs.length := by rw [← hl.len, List.length_map]
  have hss : (sidesN ds g).length ≤ 2000 := by rw [sidesN, List.length_map]; have := hR.len; omega
  obtain ⟨pss, epss⟩ : ∃ pss, pss = piecesF rs (sidesN ds g) := ⟨_, rfl⟩
  have hsm := pieces_small (rs := rs) hss
  have hpn := pieces_ne (rs := rs) (ss := sidesN ds g)
  rw [← epss] at hsm hpn
  refine ⟨_, (@pss_cons _ _ _ _ _ (@ps_set _ _ 2 _ _ _ _ sc.nd rfl (Or.inl rfl) (@pe_def _ _ _ _ _ _ _ _ _ _ _ G_pieces hr (by rfl) (@pa_cons _ _ _ _ _ (@pe_callTy _ _ _ _ _ _ _ _ _ call_listA (by rfl) T.list (by decide +kernel) (@pa_cons _ _ _ _ _ (pv 0) pa_nil (by rfl)) (by decide) (by decide) (by rfl) (by rfl)) (@pa_cons _ _ _ _ _ (pv 1) pa_nil (by rfl)) (by rfl)) (by omega) (by decide) (by rfl) (by rfl)) (by rfl) (Or.inl rfl)) (@pss_cons _ _ _ _ _ (@ps_set _ _ 3 _ _ _ _ sc.nd rfl (Or.inl rfl) (@pe_callTy _ _ _ _ _ _ _ _ _ call_listA (by rfl) T.list (by decide +kernel) (@pa_cons _ _ _ _ _ (pv 0) pa_nil (by rfl)) (by decide) (by decide) (by rfl) (by rfl)) (by rfl) (Or.inl rfl)) (@pss_cons _ _ _ _ _ (@ps_set _ _ 4 _ _ _ _ sc.nd rfl (Or.inl rfl) (@pe_def _ _ _ _ _ _ _ _ _ _ _ G_with_grain hr (by rfl) (@pa_cons _ _ _ _ _ (pv 0) (@pa_cons _ _ _ _ _ (pv 1) pa_nil (by rfl)) (by rfl)) (by omega) (by decide) (by rfl) (by rfl)) (by rfl) (Or.inl rfl)) (@pss_cons _ _ _ _ _ (@ps_if _ _ _ _ _ _ _ _ (PW.pt (pw_or (pt_not (pt_val (@pe_def _ _ _ _ _ _ _ _ _ _ _ G_same hr (by rfl) (@pa_cons _ _ _ _ _ (pv 4) (@pa_cons _ _ _ _ _ (pv 2) pa_nil (by rfl)) (by rfl)) (by omega) (by decide) (by rfl) (by rfl)))) (pw_or1 (@pt_cmpR _ _ _ _ _ _ _ _ op_neD (pv 0) (pv 3) (nomark _))))) (@pss_one _ _ _ (@ps_ret _ _ _ _ pe_bl)) pss_nil) (@pss_cons _ _ _ _ _ (ps_expr (pe_bm PySem.F.plainAttrs_list PySem.F.slot_list_append PySem.F.type_list_append mt_appendA (@pe_ix _ _ _ _ _ _ _ ix_list (pv 4) pe_int (fun _ _ => rfl)) (@pa_cons _ _ _ _ _ (@pe_tupA _ _ _ _ _ (@pa_cons _ _ _ _ _ pe_int (@pa_cons _ _ _ _ _ pe_int pa_nil (by rfl)) (by rfl))) pa_nil (by rfl)))) (@pss_cons _ _ _ _ _ (ps_expr (pe_bm0 PySem.F.plainAttrs_list PySem.F.slot_list_reverse PySem.F.type_list_reverse mt_reverse (pv 4))) (@pss_one _ _ _ (@ps_ret _ _ _ _ (@pe_def _ _ _ _ _ _ _ _ _ _ _ G_same hr (by rfl) (@pa_cons _ _ _ _ _ (@pe_def _ _ _ _ _ _ _ _ _ _ _ G_with_grain hr (by rfl) (@pa_cons _ _ _ _ _ (@pe_callTy _ _ _ _ _ _ _ _ _ call_tupleG (by rfl) T.tuple (by decide +kernel) (@pa_cons _ _ _ _ _ (@pe_compF _ _ _ _ sc ["_law_corner"] [none] nd1 _ _ _ _ _ _ _ _ _ _ (by decide +kernel) (@pi_seq _ _ _ _ (pv 0)) (fun _ _ _ => (pg_name (i := 0) nd1 rfl (Or.inl rfl) (Or.inr rfl))) (fun _ _ _ => pts_nil) (fun _ _ _ => (@pe_callTy _ _ _ _ _ _ _ _ _ call_listA (by rfl) T.list (by decide +kernel) (@pa_cons _ _ _ _ _ (pv 0) pa_nil (by rfl)) (by decide) (by decide) (by rfl) (by rfl))) (by rfl) (by rfl) (by rfl) (by intro _; rfl)) pa_nil (by rfl)) (by decide) (by decide) (by rfl) (by rfl)) (@pa_cons _ _ _ _ _ (pv 1) pa_nil (by rfl)) (by rfl)) (by omega) (by decide) (by rfl) (by rfl)) (@pa_cons _ _ _ _ _ (pv 2) pa_nil (by rfl)) (by rfl)) (by omega) (by decide) (by rfl) (by rfl)))))))))), ?_⟩
  -- due
  refine ⟨_, rfl, false, r, acc, rfl, SqL.of hr1, fun la H1 _ g1 e1 => ?_⟩
  refine ⟨_, rfl, la, acc, rs, ds, g, rfl, SqL.of e1, HasL.same g1 hl, hR, by omega, fun pd ad H2 _ g2 e2 r2 => ?_⟩
  rw [← epss] at r2
  have hdue := r2.has e2
  -- kept
  have hr2 := (g1.trans' g2) _ _ hr1
  refine ⟨_, rfl, false, r, acc, rfl, SqL.of hr2, fun pk H3 _ g3 e3 => ?_⟩
  have g13 := g1.trans' (g2.trans' g3)
  have hr3 := g13 _ _ hr1
  have hl3 := HasL.same g13 hl
  have hdue3 := Has.same g3 hdue
  -- found
  refine ⟨_, rfl, _, rfl, false, r, acc, rs, ds, g, rfl, SqL.of hr3, ptsG_of hl3, hR, by omega, fun pf af H4 hpf g4 e4 r4 => ?_⟩
  rw [← epss] at r4
  refine ⟨_, rfl, _, rfl, _, _, psD pss, rfl, r4.has e4, Has.same g4 hdue3, gd_psD hsm.1 hsm.2, dpt_psD _, fun H5 g5 => ⟨_, rfl, iteBF rfl ?_⟩⟩
  have g45 := g4.trans' g5
  refine ⟨_, rfl, _, rfl, .lst (rs.map ptD), .lst (rs.map ptD), has_pts (g45 _ _ hr3) (HasL.same g45 hl3), has_pts (g45 _ _ e3) (HasL.same (g3.trans' g45) (HasL.same (g1.trans' g2) hl)), ?_, _, rfl, iteBF (by rw [eqD_same]; rfl) ?_⟩
  · have := dptL_pts rs
    rw [dpt]
    exact room_deep hr (by omega)
  -- what was told is changed
  have r5 := r4.same g5
  have e5 := g5 _ _ e4
  have zaf : 0 < af.length := by rw [r4.len]; exact hpn
  obtain ⟨q0, x0, ev0, nq0, hq0, eq0, lq0⟩ := r5.it 0 _ _ (List.getElem?_eq_getElem zaf) (List.getElem?_eq_getElem hpn)
  have at00 : atI af ((0 : Nat) : Int) = some (.ref q0) := (atI_nat (List.getElem?_eq_getElem zaf)).trans (by rw [ev0])
  refine ⟨_, rfl, pf, _, _, V.ref q0, rfl, rfl, SqL.of e5, at00, .inl ⟨rfl, _, SqL.of eq0⟩, ?_⟩
  have zx0 : x0.length ≤ 100000 := by
    rw [← lq0.len, List.length_map]
    exact hsm.2 _ (List.getElem_mem hpn)
  refine ⟨(by show 2 ≤ sizeLine; decide), fun p0 H6 _ g6 _ => ?_⟩
  refine ⟨q0, x0, _, rfl, rfl, g6 _ _ eq0, (by show x0.length < 2 ^ 24; omega), fun H7 put => ?_⟩
  have S37 : Same H3 H7 := fun a o e => put.keep ((g45.trans' g6) _ _ e) (ne_of_none e hq0)
  have e7 := put.keep (g6 _ _ e5) (fun z => nq0 z.symm)
  refine ⟨_, rfl, .inl ⟨rfl, _, SqL.of e7⟩, pf, af, rfl, rfl, e7, ?_⟩
  have put8 : Put H7 pf (.lst af.reverse) (upd H7 pf (.lst af.reverse)) := Put.up
  revert put8
  generalize upd H7 pf (.lst af.reverse) = H8
  intro put8
  have S38 : Same H3 H8 := fun a o e => put8.keep (S37 _ _ e) (ne_of_none e hpf)
  -- corners as lists
  have hr8 := S38 _ _ hr3
  have hl8 := HasL.same S38 hl3
  refine ⟨_, rfl, false, r, acc, rfl, SqL.of hr8, ?_⟩
  refine comp_any (fun σ' => ∃ z, σ' = [z]) acc.length (by show acc.length < 2 ^ 24; omega) ⟨none, rfl⟩ (fun p i ac J => Same H8 J ∧ H8 p = none ∧ ac.length = i ∧ ∀ (j : Nat) (q : Int × Int) (v : V), rs[j]? = some q → ac[j]? = some v → ∃ b, v = .ref b ∧ b ≠ p ∧ J b = some (.lst [.int q.1, .int q.2]))
    (fun p J hp g e => ⟨g, hp, rfl, fun j q v _ hv => by simp at hv⟩) (fun p i ac J ⟨g, _⟩ hi => its_go (b := false) (SqL.of hr8) rfl i J g hi) (fun p ac J ⟨g, _⟩ => its_stop (b := false) (SqL.of hr8) rfl J g) ?_ ?_
  · rintro s3 H3' fp p j ac σ' J hp hj ⟨z, rfl⟩ hla hac ⟨gJ, _, hlj, hall⟩ v J2 hy Nx Ap _ hA
    obtain ⟨rfl, hv⟩ := its_yld (b := false) (SqL.of hr8) gJ hy
    obtain ⟨pa, rfl, hs⟩ := ptD_at (HasL.same gJ hl8) hv
    refine gname_yes ?_
    refine ⟨_, rfl, true, pa, _, rfl, hs, fun lb J3 hlb g3 e3 => ?_⟩
    refine hA _ _ J3 ⟨_, rfl⟩ (g3 _ _ hac) fun J4 put => ?_
    refine ⟨fun b u e => put.keep ((gJ.trans' g3) _ _ e) (ne_of_none e hp), hp, by rw [List.length_append, hlj]; rfl, fun k q' v hq hv' => ?_⟩
    by_cases hk : k < j
    · rw [List.getElem?_append_left (by omega)] at hv'
      obtain ⟨b, rfl, nb, eb⟩ := hall k q' v hq hv'
      exact ⟨b, rfl, nb, put.keep (g3 _ _ eb) nb⟩
    · rw [List.getElem?_append_right (by omega)] at hv'
      have hk2 : k - ac.length = 0 := by
        have := (List.getElem?_eq_some_iff.mp hv').1
        simp at this
        omega
      rw [hk2] at hv'
      cases hv'
      have ekj : k = j := by omega
      subst ekj
      have eq' : rs.getD k (0, 0) = q' := by rw [List.getD_eq_getElem?_getD, hq]; rfl
      have nlb : lb ≠ p := (ne_of_none hac hlb).symm
      rw [eq'] at e3
      exact ⟨lb, rfl, nlb, put.keep e3 nlb⟩
  intro lc ac H9 _ _ wc ⟨g9, _, hcl, hall⟩
  refine ⟨false, lc, ac, rfl, SqL.of wc, fun tb H10 g10 s10 => ?_⟩
  have hpt : PtsG K H10 rs ac := ⟨by omega, fun i v hv => by
    have hi := (List.getElem?_eq_some_iff.mp hv).1
    have hi2 : i < rs.length := by omega
    obtain ⟨b, rfl, _, hb⟩ := hall i _ v (List.getElem?_eq_getElem hi2) hv
    refine ⟨false, b, rfl, ?_⟩
    have : rs.getD i (0, 0) = rs[i] := by simp [List.getD_eq_getElem?_getD, hi2]
    rw [this]
    exact SqL.of (g10 _ _ hb)⟩
  refine ⟨_, rfl, true, tb, ac, rs, ds, g, rfl, s10, hpt, hR, by omega, fun pg ag H11 _ g11 e11 r11 => ?_⟩
  rw [← epss] at r11
  refine ⟨_, rfl, _, _, psD pss, rfl, r11.has e11, Has.same (S38.trans' (g9.trans' (g10.trans' g11))) hdue3, gd_psD hsm.1 hsm.2, dpt_psD _, fun H12 g12 => ?_⟩
  exact q H12 (g13.trans' (S38.trans' (g9.trans' (g10.trans' (g11.trans' g12)))))
end
end Mp

namespace Mp
open PySem L2
def spLaw (K : PySem.W.Frag) : Sp := fun vs H Q _ => ∃ (a : Addr) (ns : List Int), vs = [.ref a] ∧ SqL K H a (ns.map V.int) ∧ ns.length ≤ 63 ∧ ∀ H', Q (.bl true) H'
/-- roads, each a list -/
def Roads (K : PySem.W.Frag) (L : Hp) (acc : List V) : Prop := ∀ v ∈ acc, ∃ q xs rs ds, v = .ref q ∧ L q = some (.lst xs) ∧ HasL K L (rs.map ptD) xs ∧ Road rs ds ∧ rs.length ≤ 1001
theorem Roads.same {K : PySem.W.Frag} {L L' : Hp} {acc : List V} (h : Roads K L acc) (g : Same L L') : Roads K L' acc := fun v hv => by
  obtain ⟨q, xs, rs, ds, e, h1, h2, h3⟩ := h v hv
  exact ⟨q, xs, rs, ds, e, g _ _ h1, HasL.same g h2, h3⟩
section
variable {P : Program} {w : World} {K : PySem.W.Frag} {mg : Str → Option Value} {base : Heap}
theorem scL : FnScope ["_law_script", "_law_state", "_law_some", "_law_points_here", "_law_road", "_law_grain"] ["_law_script"] (defScope s_law) := ⟨rfl, rfl, rfl, by decide +kernel, rfl, by decide +kernel, by decide +kernel⟩
set_option maxHeartbeats 4000000 in
theorem ok_law {f : Addr} {fd : FuncData} (F : Fun K "law" "law" s_law f fd) (T : Txt mg) (G_begin : Cal P w K mg base 1 "_law_begin" ["_law_script"] (spBegin K)) (G_walk : Cal P w K mg base 2 "_law_walk" ["_law_state"] (spWalk K)) (G_points : Cal P w K mg base 2 "_law_points" ["_law_state"] spPoints) (G_runs : Cal P w K mg base 4 "runs" ["points"] (spRuns K)) (G_right : Cal P w K mg base 5 "_law_right" ["_law_road", "_law_grain"] (spLRight K)) : FnOk P w K mg base CX0 6 f fd ["_law_script"] (spLaw K) := by
  refine F.ok scL (fun vs H Q E h => ?_) (fun cdv A outer s H vs Q E hr h => ?_)
  · obtain ⟨a, ns, rfl, _⟩ := h
    rfl
  obtain ⟨a, ns, rfl, hS, h63, q⟩ := h
  have sc := @scL
  refine ⟨_, (@pss_cons _ _ _ _ _ (@ps_set _ _ 1 _ _ _ _ sc.nd rfl (Or.inl rfl) (@pe_def _ _ _ _ _ _ _ _ _ _ _ G_begin hr (by rfl) (@pa_cons _ _ _ _ _ (pv 0) pa_nil (by rfl)) (by omega) (by decide) (by rfl) (by rfl)) (by rfl) (Or.inl rfl)) (@pss_cons _ _ _ _ _ (@ps_set _ _ 2 _ _ _ _ sc.nd rfl (Or.inl rfl) (@pe_lstA _ _ _ _ (@pa_cons _ _ _ _ _ (@pe_def _ _ _ _ _ _ _ _ _ _ _ G_walk hr (by rfl) (@pa_cons _ _ _ _ _ (pv 1) pa_nil (by rfl)) (by omega) (by decide) (by rfl) (by rfl)) (@pa_cons _ _ _ _ _ (@pe_def _ _ _ _ _ _ _ _ _ _ _ G_walk hr (by rfl) (@pa_cons _ _ _ _ _ (pv 1) pa_nil (by rfl)) (by omega) (by decide) (by rfl) (by rfl)) pa_nil (by rfl)) (by rfl))) (by rfl) (Or.inl rfl)) (@pss_cons _ _ _ _ _ (@ps_set _ _ 3 _ _ _ _ sc.nd rfl (Or.inl rfl) (@pe_def _ _ _ _ _ _ _ _ _ _ _ G_points hr (by rfl) (@pa_cons _ _ _ _ _ (pv 1) pa_nil (by rfl)) (by omega) (by decide) (by rfl) (by rfl)) (by rfl) (Or.inl rfl)) (@pss_cons _ _ _ _ _ (@ps_if _ _ _ _ _ _ _ _ (@pt_cmpR _ _ _ _ _ _ _ _ op_lt (@pe_callB _ _ _ _ _ _ _ _ _ call_lenA (by rfl) T.len (by decide +kernel) (@pa_cons _ _ _ _ _ (pv 3) pa_nil (by rfl)) (by decide) (by decide) (by rfl) (by rfl)) pe_int (nomark _)) (@pss_one _ _ _ (@ps_set _ _ 2 _ _ _ _ sc.nd rfl (Or.inl rfl) (@pe_op _ _ _ _ _ _ _ _ op_catA (pv 2) (@pe_slice _ _ _ _ _ _ _ _ _ _ sl_listA (@pe_def _ _ _ _ _ _ _ _ _ _ _ G_runs hr (by rfl) (@pa_cons _ _ _ _ _ (pv 3) pa_nil (by rfl)) (by omega) (by decide) (by rfl) (by rfl)) po_none (po_some pe_int))) (by rfl) (Or.inl rfl))) pss_nil) (@pss_cons _ _ _ _ _ (@ps_for _ _ _ _ _ _ _ _ PassesOwn.never rfl (pi_list (pv 2)) (pg_name (i := 4) sc.nd rfl (Or.inl rfl)) (@pss_one _ _ _ (@ps_for _ _ _ _ _ _ _ _ PassesOwn.never rfl (pi_range1 (by rfl) T.range (@pa_cons _ _ _ _ _ pe_int pa_nil (by rfl))) (pg_name (i := 5) sc.nd rfl (Or.inl rfl)) (@pss_one _ _ _ (@ps_if _ _ _ _ _ _ _ _ (pt_not (pt_val (@pe_def _ _ _ _ _ _ _ _ _ _ _ G_right hr (by rfl) (@pa_cons _ _ _ _ _ (pv 4) (@pa_cons _ _ _ _ _ (pv 5) pa_nil (by rfl)) (by rfl)) (by omega) (by decide) (by rfl) (by rfl)))) (@pss_one _ _ _ (@ps_ret _ _ _ _ pe_bl)) pss_nil)) (by intro _; rfl))) (by intro _; rfl)) (@pss_one _ _ _ (@ps_ret _ _ _ _ pe_bl))))))), ?_⟩
  refine ⟨_, rfl, a, ns, rfl, hS, h63, fun st c cs H1 _ _ S1 g1 => ?_⟩
  -- two walks
  refine ⟨_, rfl, st, c, cs, 0, rfl, S1, by decide, by decide, fun r2 acc2 rs2 ds2 cs2 t2 H2 S2 u0 u1 K2 _ n2 e2 l2 R2 z2 => ?_⟩
  refine ⟨_, rfl, st, c, cs2, t2, rfl, S2, by omega, by omega, fun r3 acc3 rs3 ds3 cs3 t3 H3 S3 v0 v1 K3 _ n3 e3 l3 R3 z3 => ?_⟩
  have e23 := K3 _ _ e2 n2.1 n2.2
  have l23 := HasL.tsame (S2.t K3) (pts_t _) l2
  refine ⟨(by show 2 ≤ sizeLine; decide), fun pm H4 hpm g4 e4 => ?_⟩
  have S4 := S3.same g4
  have npm : pm ≠ st ∧ pm ≠ c := ⟨(ne_of_none S3.d hpm).symm, (ne_of_none S3.l hpm).symm⟩
  have e24 := g4 _ _ e23
  have l24 := HasL.same g4 l23
  have e34 := g4 _ _ e3
  have l34 := HasL.same g4 l3
  -- points
  refine ⟨_, rfl, st, c, cs3, t3, rfl, S4, by omega, by omega, fun pp xs ps cs5 t5 H5 S5 w0 w1 K5 _ np ep raw hpl => ?_⟩
  have T5 := S4.t K5
  have rd5 : Roads K H5 [V.ref r2, .ref r3] := fun v hv => by
    rcases List.mem_cons.mp hv with rfl | hv
    · exact ⟨r2, acc2, rs2, ds2, rfl, K5 _ _ e24 n2.1 n2.2, HasL.tsame T5 (pts_t _) l24, R2, z2⟩
    · rw [List.mem_singleton.mp hv]
      exact ⟨r3, acc3, rs3, ds3, rfl, K5 _ _ e34 n3.1 n3.2, HasL.tsame T5 (pts_t _) l34, R3, z3⟩
  have e45 := K5 _ _ e4 npm.1 npm.2
  dsimp only [gName]
  refine if_split (fun σ' L' => ∃ (pq : Addr) (acc : List V), σ' = [some (.ref a), some (.ref st), some (.ref pq), some (.ref pp), none, none] ∧ L' pq = some (.lst acc) ∧ Roads K L' acc ∧ acc.length ≤ 10) ?_ ?_
  · rintro σ' L' ⟨pq, acc, rfl, eq, rd, hl10⟩
    refine ⟨_, rfl, pq, rfl, ⟨_, SqL.of eq⟩, for_list (K := K) (a := pq) (xs := acc) (fun j σ L => ∃ (v4 v5 : Option V), σ = [some (.ref a), some (.ref st), some (.ref pq), some (.ref pp), v4, v5] ∧ Same L' L) ⟨none, none, rfl, .rfl'⟩ (fun j σ L _ ⟨_, _, _, z⟩ => SqL.of (z _ _ eq)) ?_ ?_⟩
    · rintro j v σ L hv ⟨v4, v5, rfl, gL⟩
      obtain ⟨r, ax, rs, ds, rfl, er, lr, hR, zr⟩ := rd v (List.mem_of_getElem? hv)
      refine ⟨8, rfl, by decide, by decide, for_range (lo := 0) (n := 8) (fun i σ L => ∃ (v5 : Option V), σ = [some (.ref a), some (.ref st), some (.ref pq), some (.ref pp), some (.ref r), v5] ∧ Same L' L) ⟨v5, rfl, gL⟩ ?_ ?_⟩
      · rintro i σ M hi ⟨v5, rfl, gM⟩
        refine ⟨_, rfl, _, rfl, r, ax, rs, ds, _, rfl, gM _ _ er, HasL.same gM lr, hR, zr, fun M' g' => ⟨_, rfl, iteBF rfl ?_⟩⟩
        exact ⟨_, rfl, gM.trans' g'⟩
      · rintro σ M ⟨v5, rfl, gM⟩
        exact ⟨_, _, rfl, gM⟩
    · rintro σ L ⟨v4, v5, rfl, gL⟩
      exact q L
  · intro rest
    refine ⟨_, rfl, false, pp, xs, rfl, SqL.of ep, _, _, rfl, rfl, _, rfl, iteB (fun hb => ?_) (fun hb => rest _ _ ⟨pm, _, rfl, e45, rd5, (by show 2 ≤ 10; decide)⟩)⟩
    refine ⟨_, rfl, _, rfl, pp, xs, ps, rfl, ep, raw.1, raw.2, by omega, fun pr ar rss H6 hpr g6 er6 r6 hall hrl => ?_⟩
    refine ⟨_, rfl, pr, ar, rfl, SqL.of er6, fun p7 H7 _ g7 e7 => ?_⟩
    have ecut : ∃ n, n ≤ 4 ∧ cutV ar none (some 4) = ar.take n := by
      unfold cutV
      have := HT.sIx_nat ar.length ar.length 4
      rw [HT.sIx_none, show (some (4 : Int)) = some ((4 : Nat) : Int) from rfl, this, List.drop_zero]
      exact ⟨min 4 ar.length - 0, by omega, rfl⟩
    obtain ⟨n, hn4, ecut⟩ := ecut
    rw [ecut] at e7
    have zt : (ar.take n).length ≤ 4 := by rw [List.length_take]; omega
    refine ⟨pm, p7, _, _, rfl, rfl, (g6.trans' g7) _ _ e45, e7, (by show 2 + _ ≤ 2 ^ 24; omega), fun p8 H8 _ g8 e8 => ?_⟩
    have g68 := g6.trans' (g7.trans' g8)
    refine rest _ _ ⟨p8, _, rfl, e8, fun v hv => ?_, by rw [List.length_append]; show 2 + _ ≤ 10; omega⟩
    rcases List.mem_append.mp hv with h | h
    · exact (rd5.same g68) v h
    · obtain ⟨i, hi, ev⟩ := List.mem_iff_getElem.mp h
      have h1 : ar[i]? = some v := by
        have : (ar.take n)[i]? = some v := by rw [List.getElem?_eq_getElem hi, ev]
        rw [List.getElem?_take] at this
        split at this
        · exact this
        · cases this
      have hi2 : i < rss.length := by rw [← r6.len]; exact (List.getElem?_eq_some_iff.mp h1).1
      obtain ⟨q', ys, z1, _, _, z4, z5⟩ := r6.it i v rss[i] h1 (List.getElem?_eq_getElem hi2)
      obtain ⟨ds, hR, hz⟩ := hall _ (List.getElem_mem hi2)
      exact ⟨q', ys, rss[i], ds, z1, (g7.trans' g8) _ _ z4, HasL.same (g7.trans' g8) z5, hR, hz⟩
end
end Mp

namespace Mp
open PySem L2
theorem all_mk {l : PySem.W.OpenLaw} {w : World} {K : PySem.W.Frag} {h : Heap} {mg : Str → Option Value} {fa : Addr} (X : K.In h) (G : h.Ns mainGlobals mg) (hfa : mg "law" = some (.ref fa))
    {f1 : Addr} {od1 an1 : Option Addr} {sl1 : Array (Option Value)} {oc1 kV1 dc1 pm1 cd1 ct1 : Value}
    {f2 : Addr} {od2 an2 : Option Addr} {sl2 : Array (Option Value)} {oc2 kV2 dc2 pm2 cd2 ct2 : Value}
    {f3 : Addr} {od3 an3 : Option Addr} {sl3 : Array (Option Value)} {oc3 kV3 dc3 pm3 cd3 ct3 : Value}
    {f4 : Addr} {od4 an4 : Option Addr} {sl4 : Array (Option Value)} {oc4 kV4 dc4 pm4 cd4 ct4 : Value}
    {f5 : Addr} {od5 an5 : Option Addr} {sl5 : Array (Option Value)} {oc5 kV5 dc5 pm5 cd5 ct5 : Value}
    {f6 : Addr} {od6 an6 : Option Addr} {sl6 : Array (Option Value)} {oc6 kV6 dc6 pm6 cd6 ct6 : Value}
    {f7 : Addr} {od7 an7 : Option Addr} {sl7 : Array (Option Value)} {oc7 kV7 dc7 pm7 cd7 ct7 : Value}
    {f8 : Addr} {od8 an8 : Option Addr} {sl8 : Array (Option Value)} {oc8 kV8 dc8 pm8 cd8 ct8 : Value}
    {f9 : Addr} {od9 an9 : Option Addr} {sl9 : Array (Option Value)} {oc9 kV9 dc9 pm9 cd9 ct9 : Value}
    {f10 : Addr} {od10 an10 : Option Addr} {sl10 : Array (Option Value)} {oc10 kV10 dc10 pm10 cd10 ct10 : Value}
    {f11 : Addr} {od11 an11 : Option Addr} {sl11 : Array (Option Value)} {oc11 kV11 dc11 pm11 cd11 ct11 : Value}
    {f12 : Addr} {od12 an12 : Option Addr} {sl12 : Array (Option Value)} {oc12 kV12 dc12 pm12 cd12 ct12 : Value}
    {f13 : Addr} {od13 an13 : Option Addr} {sl13 : Array (Option Value)} {oc13 kV13 dc13 pm13 cd13 ct13 : Value}
    {f14 : Addr} {od14 an14 : Option Addr} {sl14 : Array (Option Value)} {oc14 kV14 dc14 pm14 cd14 ct14 : Value}
    {f15 : Addr} {od15 an15 : Option Addr} {sl15 : Array (Option Value)} {oc15 kV15 dc15 pm15 cd15 ct15 : Value}
    {f16 : Addr} {od16 an16 : Option Addr} {sl16 : Array (Option Value)} {oc16 kV16 dc16 pm16 cd16 ct16 : Value}
    {f17 : Addr} {od17 an17 : Option Addr} {sl17 : Array (Option Value)} {oc17 kV17 dc17 pm17 cd17 ct17 : Value}
    {f18 : Addr} {od18 an18 : Option Addr} {sl18 : Array (Option Value)} {oc18 kV18 dc18 pm18 cd18 ct18 : Value}
    {f19 : Addr} {od19 an19 : Option Addr} {sl19 : Array (Option Value)} {oc19 kV19 dc19 pm19 cd19 ct19 : Value}
    {aS : Addr} {dS : Option Addr} {nS : Nat} {slS : Array (Option Value)} {cp0 : Addr} {cp1 : Addr} {cp2 : Addr} {cp3 : Addr} {cp4 : Addr} {cp5 : Addr} {cp6 : Addr} {cp7 : Addr}
    {cd0_ : Option Addr} {cn0_ : Nat} {cs0_ : Array (Option Value)} {ct0_ cu0_ : Tok}
    {cd1_ : Option Addr} {cn1_ : Nat} {cs1_ : Array (Option Value)} {ct1_ cu1_ : Tok}
    {cd2_ : Option Addr} {cn2_ : Nat} {cs2_ : Array (Option Value)} {ct2_ cu2_ : Tok}
    {cd3_ : Option Addr} {cn3_ : Nat} {cs3_ : Array (Option Value)} {ct3_ cu3_ : Tok}
    {cd4_ : Option Addr} {cn4_ : Nat} {cs4_ : Array (Option Value)} {ct4_ cu4_ : Tok}
    {cd5_ : Option Addr} {cn5_ : Nat} {cs5_ : Array (Option Value)} {ct5_ cu5_ : Tok}
    {cd6_ : Option Addr} {cn6_ : Nat} {cs6_ : Array (Option Value)} {ct6_ cu6_ : Tok}
    {cd7_ : Option Addr} {cn7_ : Nat} {cs7_ : Array (Option Value)} {ct7_ cu7_ : Tok}
    {ti_WITH : Tok}
    {ti_ACROSS : Tok}
    {ti_AGAINST : Tok}
    {aT_ANY_TURN : Addr} {dT_ANY_TURN : Option Addr} {nT_ANY_TURN : Nat} {sT_ANY_TURN : Array (Option Value)} {u0_ANY_TURN u1_ANY_TURN u2_ANY_TURN u3_ANY_TURN u4_ANY_TURN u5_ANY_TURN u6_ANY_TURN u7_ANY_TURN : Tok}
    {aT_TURNS : Addr} {dT_TURNS : Option Addr} {nT_TURNS : Nat} {sT_TURNS : Array (Option Value)} {u0_TURNS u1_TURNS u2_TURNS u3_TURNS u4_TURNS u5_TURNS u6_TURNS : Tok}
    (a1 : PySem.W.nsIn K mainGlobals "stepped" = some (some (.ref f1))) (l1 : K.lookup f1 = some ⟨oc1, od1, .func (PySem.W.fnOf "stepped" "stepped" (defArgs s_stepped) (defBody s_stepped) (defScope s_stepped) .none kV1 dc1 pm1 an1 cd1 ct1), sl1⟩) (c1 : PySem.W.codeIn K cd1 "stepped" = true) (k1 : PySem.W.keepIn K (.ref f1) = true)
    (a2 : PySem.W.nsIn K mainGlobals "straight" = some (some (.ref f2))) (l2 : K.lookup f2 = some ⟨oc2, od2, .func (PySem.W.fnOf "straight" "straight" (defArgs s_straight) (defBody s_straight) (defScope s_straight) .none kV2 dc2 pm2 an2 cd2 ct2), sl2⟩) (c2 : PySem.W.codeIn K cd2 "straight" = true) (k2 : PySem.W.keepIn K (.ref f2) = true)
    (a3 : PySem.W.nsIn K mainGlobals "with_grain" = some (some (.ref f3))) (l3 : K.lookup f3 = some ⟨oc3, od3, .func (PySem.W.fnOf "with_grain" "with_grain" (defArgs s_with_grain) (defBody s_with_grain) (defScope s_with_grain) .none kV3 dc3 pm3 an3 cd3 ct3), sl3⟩) (c3 : PySem.W.codeIn K cd3 "with_grain" = true) (k3 : PySem.W.keepIn K (.ref f3) = true)
    (a4 : PySem.W.nsIn K mainGlobals "lie_of_step" = some (some (.ref f4))) (l4 : K.lookup f4 = some ⟨oc4, od4, .func (PySem.W.fnOf "lie_of_step" "lie_of_step" (defArgs s_lie_of_step) (defBody s_lie_of_step) (defScope s_lie_of_step) .none kV4 dc4 pm4 an4 cd4 ct4), sl4⟩) (c4 : PySem.W.codeIn K cd4 "lie_of_step" = true) (k4 : PySem.W.keepIn K (.ref f4) = true)
    (a5 : PySem.W.nsIn K mainGlobals "turned" = some (some (.ref f5))) (l5 : K.lookup f5 = some ⟨oc5, od5, .func (PySem.W.fnOf "turned" "turned" (defArgs s_turned) (defBody s_turned) (defScope s_turned) .none kV5 dc5 pm5 an5 cd5 ct5), sl5⟩) (c5 : PySem.W.codeIn K cd5 "turned" = true) (k5 : PySem.W.keepIn K (.ref f5) = true)
    (a6 : PySem.W.nsIn K mainGlobals "runs" = some (some (.ref f6))) (l6 : K.lookup f6 = some ⟨oc6, od6, .func (PySem.W.fnOf "runs" "runs" (defArgs s_runs) (defBody s_runs) (defScope s_runs) .none kV6 dc6 pm6 an6 cd6 ct6), sl6⟩) (c6 : PySem.W.codeIn K cd6 "runs" = true) (k6 : PySem.W.keepIn K (.ref f6) = true)
    (a7 : PySem.W.nsIn K mainGlobals "run_from" = some (some (.ref f7))) (l7 : K.lookup f7 = some ⟨oc7, od7, .func (PySem.W.fnOf "run_from" "run_from" (defArgs s_run_from) (defBody s_run_from) (defScope s_run_from) .none kV7 dc7 pm7 an7 cd7 ct7), sl7⟩) (c7 : PySem.W.codeIn K cd7 "run_from" = true) (k7 : PySem.W.keepIn K (.ref f7) = true)
    (a8 : PySem.W.nsIn K mainGlobals "next_direction" = some (some (.ref f8))) (l8 : K.lookup f8 = some ⟨oc8, od8, .func (PySem.W.fnOf "next_direction" "next_direction" (defArgs s_next_direction) (defBody s_next_direction) (defScope s_next_direction) .none kV8 dc8 pm8 an8 cd8 ct8), sl8⟩) (c8 : PySem.W.codeIn K cd8 "next_direction" = true) (k8 : PySem.W.keepIn K (.ref f8) = true)
    (a9 : PySem.W.nsIn K mainGlobals "closed" = some (some (.ref f9))) (l9 : K.lookup f9 = some ⟨oc9, od9, .func (PySem.W.fnOf "closed" "closed" (defArgs s_closed) (defBody s_closed) (defScope s_closed) .none kV9 dc9 pm9 an9 cd9 ct9), sl9⟩) (c9 : PySem.W.codeIn K cd9 "closed" = true) (k9 : PySem.W.keepIn K (.ref f9) = true)
    (a10 : PySem.W.nsIn K mainGlobals "_law_begin" = some (some (.ref f10))) (l10 : K.lookup f10 = some ⟨oc10, od10, .func (PySem.W.fnOf "_law_begin" "_law_begin" (defArgs s_begin) (defBody s_begin) (defScope s_begin) .none kV10 dc10 pm10 an10 cd10 ct10), sl10⟩) (c10 : PySem.W.codeIn K cd10 "_law_begin" = true) (k10 : PySem.W.keepIn K (.ref f10) = true)
    (a11 : PySem.W.nsIn K mainGlobals "_law_take" = some (some (.ref f11))) (l11 : K.lookup f11 = some ⟨oc11, od11, .func (PySem.W.fnOf "_law_take" "_law_take" (defArgs s_take) (defBody s_take) (defScope s_take) .none kV11 dc11 pm11 an11 cd11 ct11), sl11⟩) (c11 : PySem.W.codeIn K cd11 "_law_take" = true) (k11 : PySem.W.keepIn K (.ref f11) = true)
    (a12 : PySem.W.nsIn K mainGlobals "_law_same" = some (some (.ref f12))) (l12 : K.lookup f12 = some ⟨oc12, od12, .func (PySem.W.fnOf "_law_same" "_law_same" (defArgs s_same) (defBody s_same) (defScope s_same) .none kV12 dc12 pm12 an12 cd12 ct12), sl12⟩) (c12 : PySem.W.codeIn K cd12 "_law_same" = true) (k12 : PySem.W.keepIn K (.ref f12) = true)
    (a13 : PySem.W.nsIn K mainGlobals "_law_ways" = some (some (.ref f13))) (l13 : K.lookup f13 = some ⟨oc13, od13, .func (PySem.W.fnOf "_law_ways" "_law_ways" (defArgs s_ways) (defBody s_ways) (defScope s_ways) .none kV13 dc13 pm13 an13 cd13 ct13), sl13⟩) (c13 : PySem.W.codeIn K cd13 "_law_ways" = true) (k13 : PySem.W.keepIn K (.ref f13) = true)
    (a14 : PySem.W.nsIn K mainGlobals "_law_points" = some (some (.ref f14))) (l14 : K.lookup f14 = some ⟨oc14, od14, .func (PySem.W.fnOf "_law_points" "_law_points" (defArgs s_points) (defBody s_points) (defScope s_points) .none kV14 dc14 pm14 an14 cd14 ct14), sl14⟩) (c14 : PySem.W.codeIn K cd14 "_law_points" = true) (k14 : PySem.W.keepIn K (.ref f14) = true)
    (a15 : PySem.W.nsIn K mainGlobals "_law_walk" = some (some (.ref f15))) (l15 : K.lookup f15 = some ⟨oc15, od15, .func (PySem.W.fnOf "_law_walk" "_law_walk" (defArgs s_walk) (defBody s_walk) (defScope s_walk) .none kV15 dc15 pm15 an15 cd15 ct15), sl15⟩) (c15 : PySem.W.codeIn K cd15 "_law_walk" = true) (k15 : PySem.W.keepIn K (.ref f15) = true)
    (a16 : PySem.W.nsIn K mainGlobals "_law_side" = some (some (.ref f16))) (l16 : K.lookup f16 = some ⟨oc16, od16, .func (PySem.W.fnOf "_law_side" "_law_side" (defArgs s_side) (defBody s_side) (defScope s_side) .none kV16 dc16 pm16 an16 cd16 ct16), sl16⟩) (c16 : PySem.W.codeIn K cd16 "_law_side" = true) (k16 : PySem.W.keepIn K (.ref f16) = true)
    (a17 : PySem.W.nsIn K mainGlobals "_law_pieces" = some (some (.ref f17))) (l17 : K.lookup f17 = some ⟨oc17, od17, .func (PySem.W.fnOf "_law_pieces" "_law_pieces" (defArgs s_pieces) (defBody s_pieces) (defScope s_pieces) .none kV17 dc17 pm17 an17 cd17 ct17), sl17⟩) (c17 : PySem.W.codeIn K cd17 "_law_pieces" = true) (k17 : PySem.W.keepIn K (.ref f17) = true)
    (a18 : PySem.W.nsIn K mainGlobals "_law_right" = some (some (.ref f18))) (l18 : K.lookup f18 = some ⟨oc18, od18, .func (PySem.W.fnOf "_law_right" "_law_right" (defArgs s_right) (defBody s_right) (defScope s_right) .none kV18 dc18 pm18 an18 cd18 ct18), sl18⟩) (c18 : PySem.W.codeIn K cd18 "_law_right" = true) (k18 : PySem.W.keepIn K (.ref f18) = true)
    (a19 : PySem.W.nsIn K mainGlobals "law" = some (some (.ref f19))) (l19 : K.lookup f19 = some ⟨oc19, od19, .func (PySem.W.fnOf "law" "law" (defArgs s_law) (defBody s_law) (defScope s_law) .none kV19 dc19 pm19 an19 cd19 ct19), sl19⟩) (c19 : PySem.W.codeIn K cd19 "law" = true) (k19 : PySem.W.keepIn K (.ref f19) = true)
    (z0 : PySem.W.nsIn K mainGlobals "len" = some none)
    (z1 : PySem.W.nsIn K mainGlobals "list" = some none)
    (z2 : PySem.W.nsIn K mainGlobals "divmod" = some none)
    (z3 : PySem.W.nsIn K mainGlobals "isinstance" = some none)
    (z4 : PySem.W.nsIn K mainGlobals "dict" = some none)
    (z5 : PySem.W.nsIn K mainGlobals "tuple" = some none)
    (z6 : PySem.W.nsIn K mainGlobals "str" = some none)
    (z7 : PySem.W.nsIn K mainGlobals "int" = some none)
    (z8 : PySem.W.nsIn K mainGlobals "bool" = some none)
    (z9 : PySem.W.nsIn K mainGlobals "all" = some none)
    (z10 : PySem.W.nsIn K mainGlobals "any" = some none)
    (z11 : PySem.W.nsIn K mainGlobals "zip" = some none)
    (z12 : PySem.W.nsIn K mainGlobals "range" = some none)
    (z13 : PySem.W.nsIn K mainGlobals "max" = some none)
    (z14 : PySem.W.nsIn K mainGlobals "min" = some none)
    (z15 : PySem.W.nsIn K mainGlobals "abs" = some none)
    (z16 : PySem.W.nsIn K mainGlobals "sum" = some none)
    (z17 : PySem.W.nsIn K mainGlobals "sorted" = some none)
    (z18 : PySem.W.nsIn K mainGlobals "enumerate" = some none)
    (z19 : PySem.W.nsIn K mainGlobals "set" = some none)
    (z20 : PySem.W.nsIn K mainGlobals "reversed" = some none)
    (gS : PySem.W.nsIn K mainGlobals "STEPS" = some (some (.ref aS))) (lS : K.lookup aS = some ⟨.type "tuple", dS, .seq #[.ref cp0, .ref cp1, .ref cp2, .ref cp3, .ref cp4, .ref cp5, .ref cp6, .ref cp7] nS, slS⟩)
    (cq0 : K.lookup cp0 = some ⟨.type "tuple", cd0_, .seq #[.int (1) ct0_, .int (0) cu0_] cn0_, cs0_⟩)
    (cq1 : K.lookup cp1 = some ⟨.type "tuple", cd1_, .seq #[.int (1) ct1_, .int (1) cu1_] cn1_, cs1_⟩)
    (cq2 : K.lookup cp2 = some ⟨.type "tuple", cd2_, .seq #[.int (0) ct2_, .int (1) cu2_] cn2_, cs2_⟩)
    (cq3 : K.lookup cp3 = some ⟨.type "tuple", cd3_, .seq #[.int (-1) ct3_, .int (1) cu3_] cn3_, cs3_⟩)
    (cq4 : K.lookup cp4 = some ⟨.type "tuple", cd4_, .seq #[.int (-1) ct4_, .int (0) cu4_] cn4_, cs4_⟩)
    (cq5 : K.lookup cp5 = some ⟨.type "tuple", cd5_, .seq #[.int (-1) ct5_, .int (-1) cu5_] cn5_, cs5_⟩)
    (cq6 : K.lookup cp6 = some ⟨.type "tuple", cd6_, .seq #[.int (0) ct6_, .int (-1) cu6_] cn6_, cs6_⟩)
    (cq7 : K.lookup cp7 = some ⟨.type "tuple", cd7_, .seq #[.int (1) ct7_, .int (-1) cu7_] cn7_, cs7_⟩)
    (gi_WITH : PySem.W.nsIn K mainGlobals "WITH" = some (some (.int (1) ti_WITH)))
    (gi_ACROSS : PySem.W.nsIn K mainGlobals "ACROSS" = some (some (.int (0) ti_ACROSS)))
    (gi_AGAINST : PySem.W.nsIn K mainGlobals "AGAINST" = some (some (.int (-1) ti_AGAINST)))
    (gt_ANY_TURN : PySem.W.nsIn K mainGlobals "ANY_TURN" = some (some (.ref aT_ANY_TURN))) (lt_ANY_TURN : K.lookup aT_ANY_TURN = some ⟨.type "tuple", dT_ANY_TURN, .seq #[.int (0) u0_ANY_TURN, .int (1) u1_ANY_TURN, .int (2) u2_ANY_TURN, .int (3) u3_ANY_TURN, .int (4) u4_ANY_TURN, .int (5) u5_ANY_TURN, .int (6) u6_ANY_TURN, .int (7) u7_ANY_TURN] nT_ANY_TURN, sT_ANY_TURN⟩)
    (gt_TURNS : PySem.W.nsIn K mainGlobals "TURNS" = some (some (.ref aT_TURNS))) (lt_TURNS : K.lookup aT_TURNS = some ⟨.type "tuple", dT_TURNS, .seq #[.int (0) u0_TURNS, .int (1) u1_TURNS, .int (7) u2_TURNS, .int (2) u3_TURNS, .int (6) u4_TURNS, .int (3) u5_TURNS, .int (5) u6_TURNS] nT_TURNS, sT_TURNS⟩)
    : ∃ fd : FuncData, (∀ (s : Shared) (v : Value), BindsTo s fd ⟨[v], []⟩ [("_law_script", v)]) ∧ ∀ base : Heap, K.In base → base.Ns mainGlobals mg → FnOk l.prog w K mg base CX0 6 fa fd ["_law_script"] (spLaw K) := by
  have e := hfa.symm.trans (PySem.W.mg_of X G a19)
  cases e
  have T : Txt mg := ⟨PySem.W.mg_none_of X G z0, PySem.W.mg_none_of X G z1, PySem.W.mg_none_of X G z2, PySem.W.mg_none_of X G z3, PySem.W.mg_none_of X G z4, PySem.W.mg_none_of X G z5, PySem.W.mg_none_of X G z6, PySem.W.mg_none_of X G z7, PySem.W.mg_none_of X G z8, PySem.W.mg_none_of X G z9, PySem.W.mg_none_of X G z10, PySem.W.mg_none_of X G z11, PySem.W.mg_none_of X G z12, PySem.W.mg_none_of X G z13, PySem.W.mg_none_of X G z14, PySem.W.mg_none_of X G z15, PySem.W.mg_none_of X G z16, PySem.W.mg_none_of X G z17, PySem.W.mg_none_of X G z18, PySem.W.mg_none_of X G z19, PySem.W.mg_none_of X G z20⟩
  have F1 := fun_mk (st := s_stepped) l1 c1 k1
  have D_stepped : Dfn K mg "stepped" s_stepped ["corner", "direction", "many"] := ⟨f1, _, F1, PySem.W.mg_of X G a1, F1.binds (ps := ["corner", "direction", "many"]) fun _ _ _ _ _ _ us hl => match us, hl with | [_, _, _], _ => rfl⟩
  have F2 := fun_mk (st := s_straight) l2 c2 k2
  have D_straight : Dfn K mg "straight" s_straight ["one", "other"] := ⟨f2, _, F2, PySem.W.mg_of X G a2, F2.binds (ps := ["one", "other"]) fun _ _ _ _ _ _ us hl => match us, hl with | [_, _], _ => rfl⟩
  have F3 := fun_mk (st := s_with_grain) l3 c3 k3
  have D_with_grain : Dfn K mg "with_grain" s_with_grain ["run", "grain"] := ⟨f3, _, F3, PySem.W.mg_of X G a3, F3.binds (ps := ["run", "grain"]) fun _ _ _ _ _ _ us hl => match us, hl with | [_, _], _ => rfl⟩
  have F4 := fun_mk (st := s_lie_of_step) l4 c4 k4
  have D_lie_of_step : Dfn K mg "lie_of_step" s_lie_of_step ["one", "other", "grain"] := ⟨f4, _, F4, PySem.W.mg_of X G a4, F4.binds (ps := ["one", "other", "grain"]) fun _ _ _ _ _ _ us hl => match us, hl with | [_, _, _], _ => rfl⟩
  have F5 := fun_mk (st := s_turned) l5 c5 k5
  have D_turned : Dfn K mg "turned" s_turned ["piece", "lie"] := ⟨f5, _, F5, PySem.W.mg_of X G a5, F5.binds (ps := ["piece", "lie"]) fun _ _ _ _ _ _ us hl => match us, hl with | [_, _], _ => rfl⟩
  have F6 := fun_mk (st := s_runs) l6 c6 k6
  have D_runs : Dfn K mg "runs" s_runs ["points"] := ⟨f6, _, F6, PySem.W.mg_of X G a6, F6.binds (ps := ["points"]) fun _ _ _ _ _ _ us hl => match us, hl with | [_], _ => rfl⟩
  have F7 := fun_mk (st := s_run_from) l7 c7 k7
  have D_run_from : Dfn K mg "run_from" s_run_from ["point", "waiting"] := ⟨f7, _, F7, PySem.W.mg_of X G a7, F7.binds (ps := ["point", "waiting"]) fun _ _ _ _ _ _ us hl => match us, hl with | [_, _], _ => rfl⟩
  have F8 := fun_mk (st := s_next_direction) l8 c8 k8
  have D_next_direction : Dfn K mg "next_direction" s_next_direction ["point", "direction", "turns", "waiting"] := ⟨f8, _, F8, PySem.W.mg_of X G a8, F8.binds (ps := ["point", "direction", "turns", "waiting"]) fun _ _ _ _ _ _ us hl => match us, hl with | [_, _, _, _], _ => rfl⟩
  have F9 := fun_mk (st := s_closed) l9 c9 k9
  have D_closed : Dfn K mg "closed" s_closed ["run"] := ⟨f9, _, F9, PySem.W.mg_of X G a9, F9.binds (ps := ["run"]) fun _ _ _ _ _ _ us hl => match us, hl with | [_], _ => rfl⟩
  have F10 := fun_mk (st := s_begin) l10 c10 k10
  have D_begin : Dfn K mg "_law_begin" s_begin ["_law_script"] := ⟨f10, _, F10, PySem.W.mg_of X G a10, F10.binds (ps := ["_law_script"]) fun _ _ _ _ _ _ us hl => match us, hl with | [_], _ => rfl⟩
  have F11 := fun_mk (st := s_take) l11 c11 k11
  have D_take : Dfn K mg "_law_take" s_take ["_law_state", "_law_many"] := ⟨f11, _, F11, PySem.W.mg_of X G a11, F11.binds (ps := ["_law_state", "_law_many"]) fun _ _ _ _ _ _ us hl => match us, hl with | [_, _], _ => rfl⟩
  have F12 := fun_mk (st := s_same) l12 c12 k12
  have D_same : Dfn K mg "_law_same" s_same ["_law_found", "_law_due"] := ⟨f12, _, F12, PySem.W.mg_of X G a12, F12.binds (ps := ["_law_found", "_law_due"]) fun _ _ _ _ _ _ us hl => match us, hl with | [_, _], _ => rfl⟩
  have F13 := fun_mk (st := s_ways) l13 c13 k13
  have D_ways : Dfn K mg "_law_ways" s_ways [] := ⟨f13, _, F13, PySem.W.mg_of X G a13, F13.binds (ps := []) fun _ _ _ _ _ _ us hl => match us, hl with | [], _ => rfl⟩
  have F14 := fun_mk (st := s_points) l14 c14 k14
  have D_points : Dfn K mg "_law_points" s_points ["_law_state"] := ⟨f14, _, F14, PySem.W.mg_of X G a14, F14.binds (ps := ["_law_state"]) fun _ _ _ _ _ _ us hl => match us, hl with | [_], _ => rfl⟩
  have F15 := fun_mk (st := s_walk) l15 c15 k15
  have D_walk : Dfn K mg "_law_walk" s_walk ["_law_state"] := ⟨f15, _, F15, PySem.W.mg_of X G a15, F15.binds (ps := ["_law_state"]) fun _ _ _ _ _ _ us hl => match us, hl with | [_], _ => rfl⟩
  have F16 := fun_mk (st := s_side) l16 c16 k16
  have D_side : Dfn K mg "_law_side" s_side ["_law_one", "_law_other", "_law_grain"] := ⟨f16, _, F16, PySem.W.mg_of X G a16, F16.binds (ps := ["_law_one", "_law_other", "_law_grain"]) fun _ _ _ _ _ _ us hl => match us, hl with | [_, _, _], _ => rfl⟩
  have F17 := fun_mk (st := s_pieces) l17 c17 k17
  have D_pieces : Dfn K mg "_law_pieces" s_pieces ["_law_road", "_law_grain"] := ⟨f17, _, F17, PySem.W.mg_of X G a17, F17.binds (ps := ["_law_road", "_law_grain"]) fun _ _ _ _ _ _ us hl => match us, hl with | [_, _], _ => rfl⟩
  have F18 := fun_mk (st := s_right) l18 c18 k18
  have D_right : Dfn K mg "_law_right" s_right ["_law_road", "_law_grain"] := ⟨f18, _, F18, PySem.W.mg_of X G a18, F18.binds (ps := ["_law_road", "_law_grain"]) fun _ _ _ _ _ _ us hl => match us, hl with | [_, _], _ => rfl⟩
  have F19 := fun_mk (st := s_law) l19 c19 k19
  refine ⟨PySem.W.fnOf "law" "law" (defArgs s_law) (defBody s_law) (defScope s_law) .none kV19 dc19 pm19 an19 cd19 ct19, fun s v => .of_eq rfl, fun base _ _ => ?_⟩
  have two : ∀ {p : Addr} {d : Option Addr} {n : Nat} {s : Array (Option Value)} {a b : Int} {t u : Tok}, K.lookup p = some ⟨.type "tuple", d, .seq #[.int a t, .int b u] n, s⟩ → ∀ H : Hp, SqT K H p [.int a, .int b] :=
    fun {p d n s a b t u} q H => .inr ⟨_, _, n, q, rfl, rfl, (by show 2 ≤ sizeLine; decide), .cons ⟨t, rfl⟩ (.cons ⟨u, rfl⟩ .nil)⟩
  have C_STEPS : StepsAt K mg aS := by
    refine ⟨PySem.W.mg_of X G gS, fun H => ⟨[.ref cp0, .ref cp1, .ref cp2, .ref cp3, .ref cp4, .ref cp5, .ref cp6, .ref cp7], .inr ⟨_, _, nS, lS, rfl, rfl, (by show 8 ≤ sizeLine; decide), (.cons rfl (.cons rfl (.cons rfl (.cons rfl (.cons rfl (.cons rfl (.cons rfl (.cons rfl .nil))))))))⟩, fun i hi => ?_⟩⟩
    match i, hi with
    | 0, _ => exact ⟨cp0, rfl, two cq0 H⟩
    | 1, _ => exact ⟨cp1, rfl, two cq1 H⟩
    | 2, _ => exact ⟨cp2, rfl, two cq2 H⟩
    | 3, _ => exact ⟨cp3, rfl, two cq3 H⟩
    | 4, _ => exact ⟨cp4, rfl, two cq4 H⟩
    | 5, _ => exact ⟨cp5, rfl, two cq5 H⟩
    | 6, _ => exact ⟨cp6, rfl, two cq6 H⟩
    | 7, _ => exact ⟨cp7, rfl, two cq7 H⟩
  have E_STEPS : ∀ H : Hp, ∃ ps : List V, ps.length = 8 ∧ SqT K H aS ps := fun H => ⟨[.ref cp0, .ref cp1, .ref cp2, .ref cp3, .ref cp4, .ref cp5, .ref cp6, .ref cp7], rfl, .inr ⟨_, _, nS, lS, rfl, rfl, (by show 8 ≤ sizeLine; decide), (.cons rfl (.cons rfl (.cons rfl (.cons rfl (.cons rfl (.cons rfl (.cons rfl (.cons rfl .nil))))))))⟩⟩
  have I_WITH : mg "WITH" = some (.int (1) ti_WITH) := PySem.W.mg_of X G gi_WITH
  have I_ACROSS : mg "ACROSS" = some (.int (0) ti_ACROSS) := PySem.W.mg_of X G gi_ACROSS
  have I_AGAINST : mg "AGAINST" = some (.int (-1) ti_AGAINST) := PySem.W.mg_of X G gi_AGAINST
  have J_ANY_TURN : mg "ANY_TURN" = some (.ref aT_ANY_TURN) := PySem.W.mg_of X G gt_ANY_TURN
  have M_ANY_TURN : ∃ ts : List Int, ∀ H : Hp, SqT K H aT_ANY_TURN (ts.map V.int) := ⟨[0, 1, 2, 3, 4, 5, 6, 7], fun H => .inr ⟨_, _, nT_ANY_TURN, lt_ANY_TURN, rfl, rfl, (by show 8 ≤ sizeLine; decide), (.cons ⟨u0_ANY_TURN, rfl⟩ (.cons ⟨u1_ANY_TURN, rfl⟩ (.cons ⟨u2_ANY_TURN, rfl⟩ (.cons ⟨u3_ANY_TURN, rfl⟩ (.cons ⟨u4_ANY_TURN, rfl⟩ (.cons ⟨u5_ANY_TURN, rfl⟩ (.cons ⟨u6_ANY_TURN, rfl⟩ (.cons ⟨u7_ANY_TURN, rfl⟩ .nil))))))))⟩⟩
  have J_TURNS : mg "TURNS" = some (.ref aT_TURNS) := PySem.W.mg_of X G gt_TURNS
  have M_TURNS : ∃ ts : List Int, ∀ H : Hp, SqT K H aT_TURNS (ts.map V.int) := ⟨[0, 1, 7, 2, 6, 3, 5], fun H => .inr ⟨_, _, nT_TURNS, lt_TURNS, rfl, rfl, (by show 7 ≤ sizeLine; decide), (.cons ⟨u0_TURNS, rfl⟩ (.cons ⟨u1_TURNS, rfl⟩ (.cons ⟨u2_TURNS, rfl⟩ (.cons ⟨u3_TURNS, rfl⟩ (.cons ⟨u4_TURNS, rfl⟩ (.cons ⟨u5_TURNS, rfl⟩ (.cons ⟨u6_TURNS, rfl⟩ .nil)))))))⟩⟩
  have G_take : Cal l.prog w K mg base 1 "_law_take" ["_law_state", "_law_many"] spTake := D_take.cal fun _ _ F => ok_take F T
  have G_begin : Cal l.prog w K mg base 1 "_law_begin" ["_law_script"] (spBegin K) := D_begin.cal fun _ _ F => ok_begin F T
  have G_stepped : Cal l.prog w K mg base 1 "stepped" ["corner", "direction", "many"] (spStepped K) := D_stepped.cal fun _ _ F => ok_stepped F C_STEPS
  have G_straight : Cal l.prog w K mg base 2 "straight" ["one", "other"] (spStraight K) := D_straight.cal fun _ _ F => ok_straight F T C_STEPS E_STEPS G_stepped
  have G_lie_of_step : Cal l.prog w K mg base 3 "lie_of_step" ["one", "other", "grain"] (spLie K) := D_lie_of_step.cal fun _ _ F => ok_lie F T I_WITH I_ACROSS I_AGAINST G_straight
  have G_turned : Cal l.prog w K mg base 1 "turned" ["piece", "lie"] (spTurned K) := D_turned.cal fun _ _ F => ok_turned F T I_AGAINST
  have G_with_grain : Cal l.prog w K mg base 4 "with_grain" ["run", "grain"] (spGrain K) := D_with_grain.cal fun _ _ F => ok_grain F T I_ACROSS G_lie_of_step G_turned
  have G_next_direction : Cal l.prog w K mg base 2 "next_direction" ["point", "direction", "turns", "waiting"] (spNext K) := D_next_direction.cal fun _ _ F => ok_next F T G_stepped
  have G_run_from : Cal l.prog w K mg base 3 "run_from" ["point", "waiting"] (spRunFrom K) := D_run_from.cal fun _ _ F => ok_run_from F T J_TURNS J_ANY_TURN M_TURNS M_ANY_TURN G_stepped G_next_direction
  have G_closed : Cal l.prog w K mg base 3 "closed" ["run"] (spClosed K) := D_closed.cal fun _ _ F => ok_closed F T G_straight
  have G_runs : Cal l.prog w K mg base 4 "runs" ["points"] (spRuns K) := D_runs.cal fun _ _ F => ok_runs F T G_run_from G_closed
  have G_ways : Cal l.prog w K mg base 1 "_law_ways" [] (spWays K) := D_ways.cal fun _ _ F => ok_ways F
  have G_points : Cal l.prog w K mg base 2 "_law_points" ["_law_state"] spPoints := D_points.cal fun _ _ F => ok_points F T G_take
  have G_walk : Cal l.prog w K mg base 2 "_law_walk" ["_law_state"] (spWalk K) := D_walk.cal fun _ _ F => ok_walk F T G_take G_ways
  have G_side : Cal l.prog w K mg base 2 "_law_side" ["_law_one", "_law_other", "_law_grain"] (spSide K) := D_side.cal fun _ _ F => ok_side F G_ways
  have G_pieces : Cal l.prog w K mg base 3 "_law_pieces" ["_law_road", "_law_grain"] (spLPieces K) := D_pieces.cal fun _ _ F => ok_lpieces F T G_side
  have G_right : Cal l.prog w K mg base 5 "_law_right" ["_law_road", "_law_grain"] (spLRight K) := D_right.cal fun _ _ F => ok_lright F T G_pieces G_with_grain (cal_same D_same T 4)
  exact ok_law F19 T G_begin G_walk G_points G_runs G_right
theorem walk {l : PySem.W.OpenLaw} {q : Program} {loose : List Str} {XP : (Str → Option Value) → Heap → Prop} {YP : World → Heap → Prop} {d : DefRec} {K : Params → PySem.W.Frag} (hn : l.most = some 63) (hdf : d.params.defaults = [])
    (hY : ∀ (w : World) (h : Heap), YP w h → (K w.params).In h)
    (F : ∀ (w : World) (mg : Str → Option Value) (fa : Addr) (h : Heap), (K w.params).In h → h.Ns mainGlobals mg → mg d.name = some (.ref fa) →
      ∃ fd : FuncData, (∀ (s : Shared) (u : Value), BindsTo s fd ⟨[u], []⟩ [("_law_script", u)]) ∧ ∀ base : Heap, (K w.params).In base → base.Ns mainGlobals mg → FnOk l.prog w (K w.params) mg base CX0 6 fa fd ["_law_script"] (spLaw (K w.params))) :
    PySem.W.WalkO q loose XP YP l.row.toRowW d [] (fun f vs => PySem.call f vs) :=
  L2.walk_of (n := 63) (k := 6) (x := "_law_script") (CX := fun _ => CX0) (sp := fun w => spLaw (K w.params)) hn (by decide) hdf ⟨rfl, by decide, by decide, rfl⟩ hY F (fun _ _ a ns hl _ hS => ⟨a, ns, rfl, hS, hl, fun _ => rfl⟩) fun _ _ _ _ _ z => z
end Mp
open PySem PySem.W PyProof.Rows
set_option maxRecDepth 100000 in
set_option maxHeartbeats 0 in
theorem PySem.Challenge.cw_millpath_k31_cut_by_the_grain_holds : PySem.Challenge.rw_millpath_k31_cut_by_the_grain.Holds := by
  w_on; o_law; k_head; (case hw => w_witness2)
  k_fill
  refine Mp.walk (l := PySem.Challenge.rw_millpath_k31_cut_by_the_grain) rfl rfl (fun w h Y => PySem.W.kIn_of Y) ?F
  case F =>
    intro w mg fa h KX G hmg
    refine' Mp.all_mk KX G hmg ?a1 ?l1 ?c1 ?k1 ?a2 ?l2 ?c2 ?k2 ?a3 ?l3 ?c3 ?k3 ?a4 ?l4 ?c4 ?k4 ?a5 ?l5 ?c5 ?k5 ?a6 ?l6 ?c6 ?k6 ?a7 ?l7 ?c7 ?k7 ?a8 ?l8 ?c8 ?k8 ?a9 ?l9 ?c9 ?k9 ?a10 ?l10 ?c10 ?k10 ?a11 ?l11 ?c11 ?k11 ?a12 ?l12 ?c12 ?k12 ?a13 ?l13 ?c13 ?k13 ?a14 ?l14 ?c14 ?k14 ?a15 ?l15 ?c15 ?k15 ?a16 ?l16 ?c16 ?k16 ?a17 ?l17 ?c17 ?k17 ?a18 ?l18 ?c18 ?k18 ?a19 ?l19 ?c19 ?k19 ?z0 ?z1 ?z2 ?z3 ?z4 ?z5 ?z6 ?z7 ?z8 ?z9 ?z10 ?z11 ?z12 ?z13 ?z14 ?z15 ?z16 ?z17 ?z18 ?z19 ?z20 ?gS ?lS ?cq0 ?cq1 ?cq2 ?cq3 ?cq4 ?cq5 ?cq6 ?cq7 ?gi_WITH ?gi_ACROSS ?gi_AGAINST ?gt_ANY_TURN ?lt_ANY_TURN ?gt_TURNS ?lt_TURNS
    (case a1 => k_is)
    (case l1 => k_is)
    (case c1 => k_is)
    (case k1 => k_is)
    (case a2 => k_is)
    (case l2 => k_is)
    (case c2 => k_is)
    (case k2 => k_is)
    (case a3 => k_is)
    (case l3 => k_is)
    (case c3 => k_is)
    (case k3 => k_is)
    (case a4 => k_is)
    (case l4 => k_is)
    (case c4 => k_is)
    (case k4 => k_is)
    (case a5 => k_is)
    (case l5 => k_is)
    (case c5 => k_is)
    (case k5 => k_is)
    (case a6 => k_is)
    (case l6 => k_is)
    (case c6 => k_is)
    (case k6 => k_is)
    (case a7 => k_is)
    (case l7 => k_is)
    (case c7 => k_is)
    (case k7 => k_is)
    (case a8 => k_is)
    (case l8 => k_is)
    (case c8 => k_is)
    (case k8 => k_is)
    (case a9 => k_is)
    (case l9 => k_is)
    (case c9 => k_is)
    (case k9 => k_is)
    (case a10 => k_is)
    (case l10 => k_is)
    (case c10 => k_is)
    (case k10 => k_is)
    (case a11 => k_is)
    (case l11 => k_is)
    (case c11 => k_is)
    (case k11 => k_is)
    (case a12 => k_is)
    (case l12 => k_is)
    (case c12 => k_is)
    (case k12 => k_is)
    (case a13 => k_is)
    (case l13 => k_is)
    (case c13 => k_is)
    (case k13 => k_is)
    (case a14 => k_is)
    (case l14 => k_is)
    (case c14 => k_is)
    (case k14 => k_is)
    (case a15 => k_is)
    (case l15 => k_is)
    (case c15 => k_is)
    (case k15 => k_is)
    (case a16 => k_is)
    (case l16 => k_is)
    (case c16 => k_is)
    (case k16 => k_is)
    (case a17 => k_is)
    (case l17 => k_is)
    (case c17 => k_is)
    (case k17 => k_is)
    (case a18 => k_is)
    (case l18 => k_is)
    (case c18 => k_is)
    (case k18 => k_is)
    (case a19 => k_is)
    (case l19 => k_is)
    (case c19 => k_is)
    (case k19 => k_is)
    (case z0 => k_is)
    (case z1 => k_is)
    (case z2 => k_is)
    (case z3 => k_is)
    (case z4 => k_is)
    (case z5 => k_is)
    (case z6 => k_is)
    (case z7 => k_is)
    (case z8 => k_is)
    (case z9 => k_is)
    (case z10 => k_is)
    (case z11 => k_is)
    (case z12 => k_is)
    (case z13 => k_is)
    (case z14 => k_is)
    (case z15 => k_is)
    (case z16 => k_is)
    (case z17 => k_is)
    (case z18 => k_is)
    (case z19 => k_is)
    (case z20 => k_is)
    (case gS => k_is)
    (case lS => k_is)
    (case cq0 => k_is)
    (case cq1 => k_is)
    (case cq2 => k_is)
    (case cq3 => k_is)
    (case cq4 => k_is)
    (case cq5 => k_is)
    (case cq6 => k_is)
    (case cq7 => k_is)
    (case gi_WITH => k_is)
    (case gi_ACROSS => k_is)
    (case gi_AGAINST => k_is)
    (case gt_ANY_TURN => k_is)
    (case lt_ANY_TURN => k_is)
    (case gt_TURNS => k_is)
    (case lt_TURNS => k_is)

